// Package routes: by which hop packets go on.
package routes

import (
	"cmp"
	"strings"

	"portico/api"
	"portico/ordered"
	"portico/span"
)

// addressBits is how many bits an address has.
const addressBits = 32

// Prefix is the addresses whose first Length bits are those of Bits.
type Prefix struct {
	Bits, Length int
}

// IsRight tells whether there is such a prefix.
func (p Prefix) IsRight() bool {
	lengths, addresses := span.Span[int]{High: addressBits}, span.FieldOf[int](addressBits)
	return lengths.Has(p.Length) && addresses.Has(p.Bits) && p.Bits&p.behind() == 0
}

// behind tells the bits that an address has behind those of the prefix.
func (p Prefix) behind() int { return 1<<(addressBits-p.Length) - 1 }

// has tells whether an address is one of the prefix.
func (p Prefix) has(address int) bool { return address&^p.behind() == p.Bits }

// compare tells below 0, if a stands ahead of b: the longest do, as they are taken first.
func (a Prefix) compare(b Prefix) int {
	return cmp.Or(cmp.Compare(b.Length, a.Length), cmp.Compare(a.Bits, b.Bits))
}

// Hop is where a packet goes on: the MAC that takes it next, and in which VLAN.
type Hop struct {
	VLAN int
	MAC  string
}

// Routes has a hop for each prefix.
type Routes struct {
	hops *ordered.Map[Prefix, Hop]
}

// New makes one without routes.
func New() *Routes { return &Routes{hops: ordered.New[Prefix, Hop](Prefix.compare)} }

// Set lets a prefix that is right have a hop; false, if it had none and there is no room for one more.
func (r *Routes) Set(p Prefix, h Hop) bool {
	// What is handed in is not kept.
	h.MAC = strings.Clone(h.MAC)
	return r.hops.PutWithin(api.MaxRoutes, p, h)
}

// Delete takes a prefix's hop away; false, if it has none.
func (r *Routes) Delete(p Prefix) bool { return r.hops.Delete(p) }

// Find tells the hop of the longest prefix that has an address; false, if none has.
func (r *Routes) Find(address int) (Hop, bool) {
	for p, h := range r.hops.All() {
		if p.has(address) {
			return h, true
		}
	}
	return Hop{}, false
}
