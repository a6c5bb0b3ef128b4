// Package macs: which MACs are known, and behind which ports.
package macs

import (
	"cmp"
	"strings"

	"portico/api"
	"portico/ordered"
)

// place is a MAC in a VLAN: the same MAC may stand behind another port in another VLAN.
type place struct {
	vlan int
	mac  string
}

// compare tells below 0, if a stands ahead of b.
func (a place) compare(b place) int {
	return cmp.Or(cmp.Compare(a.vlan, b.vlan), cmp.Compare(a.mac, b.mac))
}

// seen is the port at which a MAC was learned last, and how many seconds ago.
type seen struct {
	port, age int
}

// Known has the MACs that are known. It has ages and no clock: so much time may go by
// that no number would have room for it.
type Known struct {
	places *ordered.Map[place, seen]
}

// New makes one in which nothing is known.
func New() *Known { return &Known{places: noPlaces()} }

// noPlaces makes an empty map of places.
func noPlaces() *ordered.Map[place, seen] { return ordered.New[place, seen](place.compare) }

// Learn lets a MAC stand behind a port of a VLAN, if it is known or there is room for one more.
func (k *Known) Learn(vlan int, mac string, port int) {
	// A piece of a frame would keep all of it in memory.
	at := place{vlan: vlan, mac: strings.Clone(mac)}
	k.places.PutWithin(api.MaxMacs, at, seen{port: port})
}

// Port tells the port behind which a MAC stands in a VLAN; false, if it is not known.
func (k *Known) Port(vlan int, mac string) (int, bool) {
	last, there := k.places.Get(place{vlan: vlan, mac: mac})
	return last.port, there
}

// Tick lets so many seconds go by, and forgets what is too old then.
func (k *Known) Tick(seconds int) {
	kept := noPlaces()
	for at, last := range k.places.All() {
		if last.age += seconds; last.age <= api.MaxAge {
			kept.Put(at, last)
		}
	}
	k.places = kept
}

// All tells what is known, by rising VLANs, then MACs.
func (k *Known) All() []api.Mac {
	l := make([]api.Mac, 0, k.places.Len())
	for at, last := range k.places.All() {
		l = append(l, api.Mac{VLAN: at.vlan, MAC: at.mac, Port: last.port, Age: last.age})
	}
	return l
}
