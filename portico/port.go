package portico

import (
	"portico/api"
	"portico/span"
)

// noVLAN is the native VLAN of a port that has none.
const noVLAN = 0

// isVLAN tells whether there is such a VLAN.
func isVLAN(vlan int) bool {
	return span.Span[int]{Low: 1, High: api.MaxVLAN}.Has(vlan)
}

// port has the VLANs that a port is one of.
type port struct {
	native int
	tagged map[int]struct{}
}

// portOf makes a port; false, if these can't be its VLANs.
func portOf(native int, tagged []int) (port, bool) {
	if native != noVLAN && !isVLAN(native) {
		return port{}, false
	}
	p := port{native: native, tagged: map[int]struct{}{}}
	for _, vlan := range tagged {
		if !isVLAN(vlan) || p.has(vlan) {
			return port{}, false
		}
		p.tagged[vlan] = struct{}{}
	}
	return p, true
}

// has tells whether the port is one of a VLAN.
func (p port) has(vlan int) bool { return vlan == p.native || p.hasTagged(vlan) }

// hasTagged tells whether a VLAN is one of the port's tagged ones.
func (p port) hasTagged(vlan int) bool {
	_, there := p.tagged[vlan]
	return there
}
