package portico_test

import (
	"math"
	"strings"
	"testing"
	"unsafe"

	"portico/api"
)

// noStations are no MACs, or groups'; the empty one is left out.
var noStations = []string{"x", "\x02aaaa", "\x02aaaaaa", every, group, "\x01\x00\x00\x00\x00\x00", strings.Repeat("\x02", 1000)}

var noVLANs = []int{0, -1, 4095, math.MaxInt, math.MinInt}

// ping is a packet to the address 10.0.0.1.
var ping = header{ttl: 9, protocol: 1, from: 7, to: 10<<24 | 1}

func TestFaceRefuses(t *testing.T) {
	s := fresh(t, 2)
	for _, vlan := range noVLANs {
		wantFace(t, s, vlan, a, api.ErrVLAN)
		// The VLAN is asked for ahead of the MAC.
		wantFace(t, s, vlan, "", api.ErrVLAN)
		wantFace(t, s, vlan, "x", api.ErrVLAN)
	}
	for _, mac := range noStations {
		wantFace(t, s, 1, mac, api.ErrMac)
		wantFace(t, s, 4094, mac, api.ErrMac)
	}
	for _, vlan := range []int{1, 2, 4094} {
		wantFace(t, s, vlan, "", api.ErrNone)
	}
}

// A face that is refused is none, and one that was there stays.
func TestFaceChangesNothingBesideAnError(t *testing.T) {
	s := fresh(t, 2)
	wantRoute(t, s, 0, 0, 1, c, api.OK)
	data := b + a + ip + ping.packet("hi")
	wantFace(t, s, 1, b+"b", api.ErrMac)
	wantSent(t, s, 0, data, out(1, data))
	wantFace(t, s, 1, b, api.OK)
	routed := c + b + ip + ping.hop().packet("hi")
	for _, mac := range noStations {
		wantFace(t, s, 1, mac, api.ErrMac)
		wantSent(t, s, 0, data, out(0, routed), out(1, routed))
	}
}

func TestFaceAnewAndAway(t *testing.T) {
	s := fresh(t, 2)
	wantRoute(t, s, 0, 0, 1, c, api.OK)
	wantFace(t, s, 1, a, api.OK)
	wantFace(t, s, 1, b, api.OK)
	toA, toB := a+a+ip+ping.packet(""), b+a+ip+ping.packet("")
	routed := c + b + ip + ping.hop().packet("")
	wantFate(t, s, 0, toA, api.Nowhere)
	wantSent(t, s, 0, toB, out(0, routed), out(1, routed))
	wantFace(t, s, 1, "", api.OK)
	wantSent(t, s, 0, toB, out(1, toB))
	wantFace(t, s, 1, "", api.ErrNone)
}

func TestFullOfFaces(t *testing.T) {
	s := fresh(t, 2)
	for i := range api.MaxFaces {
		wantFace(t, s, 4094-i, name(i), api.OK)
	}
	wantFace(t, s, 1, a, api.ErrFull)
	// What comes ahead of it, and what is none of it.
	wantFace(t, s, 0, a, api.ErrVLAN)
	wantFace(t, s, 1, every, api.ErrMac)
	wantFace(t, s, 1, "", api.ErrNone)
	wantFace(t, s, 4094, b, api.OK)
	wantFace(t, s, 4094, "", api.OK)
	wantFace(t, s, 1, a, api.OK)
	wantFace(t, s, 4094, a, api.ErrFull)
}

// The same MAC may be the face of many VLANs.
func TestFacesOfOneMAC(t *testing.T) {
	s := fresh(t, 2)
	wantPort(t, s, 0, 1, []int{2}, api.OK)
	wantPort(t, s, 1, 3, nil, api.OK)
	for vlan := 1; vlan <= 3; vlan++ {
		wantFace(t, s, vlan, b, api.OK)
	}
	wantRoute(t, s, 0, 0, 3, c, api.OK)
	routed := c + b + ip + ping.hop().packet("")
	wantSent(t, s, 0, b+a+ip+ping.packet(""), out(1, routed))
	wantSent(t, s, 0, b+a+tag(2, 9)+ip+ping.packet(""), out(1, routed))
}

func TestRouteRefuses(t *testing.T) {
	s := fresh(t, 2)
	for _, x := range [][2]int{
		{0, -1}, {0, 33}, {0, 64}, {0, math.MaxInt}, {0, math.MinInt},
		{-1, 0}, {-1, 32}, {1 << 32, 32}, {1 << 32, 0}, {math.MaxInt, 32}, {math.MinInt, 0},
		{1, 0}, {1 << 31, 0}, {1, 31}, {1 << 30, 1}, {10<<24 | 1<<7, 24}, {1<<32 - 1, 31},
	} {
		wantRoute(t, s, x[0], x[1], 1, a, api.ErrRoute)
		// The prefix is asked for ahead of the VLAN and the MAC.
		wantRoute(t, s, x[0], x[1], 0, "", api.ErrRoute)
		wantRoute(t, s, x[0], x[1], 1, every, api.ErrRoute)
	}
	for _, vlan := range noVLANs {
		wantRoute(t, s, 0, 0, vlan, a, api.ErrVLAN)
		wantRoute(t, s, 0, 32, vlan, "", api.ErrVLAN)
		wantRoute(t, s, 0, 32, vlan, every, api.ErrVLAN)
	}
	wantRoute(t, s, 0, 0, 1, "", api.ErrMac)
	for _, mac := range noStations {
		wantRoute(t, s, 0, 0, 1, mac, api.ErrMac)
	}
	wantFace(t, s, 1, b, api.OK)
	wantFate(t, s, 0, b+a+ip+ping.packet(""), api.NoRoute)
}

func TestRouteTakes(t *testing.T) {
	s := fresh(t, 2)
	for _, x := range [][2]int{{0, 0}, {0, 32}, {1, 32}, {1<<32 - 1, 32}, {1<<32 - 2, 31}, {1 << 31, 1}, {10 << 24, 8}} {
		wantRoute(t, s, x[0], x[1], 1, a, api.OK)
		wantRoute(t, s, x[0], x[1], 4094, b, api.OK)
		wantUnroute(t, s, x[0], x[1], api.OK)
		wantUnroute(t, s, x[0], x[1], api.ErrNone)
	}
}

// A route that is refused does not take the place of one that is there.
func TestRouteChangesNothingBesideAnError(t *testing.T) {
	s := fresh(t, 2)
	wantFace(t, s, 1, b, api.OK)
	wantRoute(t, s, 0, 0, 1, c, api.OK)
	wantRoute(t, s, 0, 0, 1, every, api.ErrMac)
	wantRoute(t, s, 0, 0, 0, a, api.ErrVLAN)
	routed := c + b + ip + ping.hop().packet("")
	wantSent(t, s, 0, b+a+ip+ping.packet(""), out(0, routed), out(1, routed))
}

func TestFullOfRoutes(t *testing.T) {
	s := fresh(t, 2)
	for i := range api.MaxRoutes {
		wantRoute(t, s, i<<8, 24, 1, a, api.OK)
	}
	wantRoute(t, s, 0, 23, 1, a, api.ErrFull)
	// What comes ahead of it.
	wantRoute(t, s, 1, 23, 1, a, api.ErrRoute)
	wantRoute(t, s, 0, 23, 0, a, api.ErrVLAN)
	wantRoute(t, s, 0, 23, 1, "", api.ErrMac)
	wantRoute(t, s, 0, 24, 2, b, api.OK)
	wantUnroute(t, s, 0, 23, api.ErrNone)
	wantUnroute(t, s, 0, 24, api.OK)
	wantRoute(t, s, 0, 23, 1, a, api.OK)
	wantRoute(t, s, 0, 24, 1, a, api.ErrFull)
}

func TestUnrouteOfNone(t *testing.T) {
	s := fresh(t, 2)
	wantRoute(t, s, 10<<24, 8, 1, a, api.OK)
	for _, x := range [][2]int{{0, 0}, {10 << 24, 9}, {10 << 24, 7}, {11 << 24, 8}, {10<<24 | 1, 8}, {-1, 99}, {1 << 32, 8}, {math.MinInt, math.MaxInt}, {math.MaxInt, math.MinInt}} {
		wantUnroute(t, s, x[0], x[1], api.ErrNone)
	}
	wantUnroute(t, s, 10<<24, 8, api.OK)
}

func TestInsertRefuses(t *testing.T) {
	s := fresh(t, 3)
	wantInsert(t, s, api.Rule{ID: 4, Action: api.Send, Port: 2}, api.OK)
	turned := api.Rule{ID: 4, Action: api.Send, Port: 3}
	turned.Match[4] = api.Match{Kind: api.Range, V: 2, M: 1}
	for _, r := range []api.Rule{
		turned, {ID: -1}, {Priority: 1001}, {Priority: -1, Action: api.Send, Port: 3}, {Action: 3}, {Port: 1}, {Action: api.Deny, Port: 3},
		{Action: api.Send, Port: -1}, {Action: api.Send, Port: 8}, {ID: 4, Action: api.Send, Port: 8}, {Action: api.Send, Port: math.MaxInt}, {ID: -1, Action: api.Send, Port: 7},
	} {
		wantInsert(t, s, r, api.ErrRule)
	}
	for port := 3; port < api.MaxPorts; port++ {
		wantInsert(t, s, api.Rule{ID: 5, Action: api.Send, Port: port}, api.ErrPort)
		// The port is asked for ahead of the ID.
		wantInsert(t, s, api.Rule{ID: 4, Action: api.Send, Port: port}, api.ErrPort)
	}
	wantInsert(t, s, api.Rule{ID: 4, Action: api.Send, Port: 1}, api.ErrTwice)
	wantInsert(t, s, api.Rule{ID: 4}, api.ErrTwice)
	wantDelete(t, s, 5, api.ErrNone)
}

// A switch of one port has rules that send to it; one of all ports lacks none.
func TestInsertTakesThePortsThatAreThere(t *testing.T) {
	for ports := 1; ports <= api.MaxPorts; ports++ {
		s := fresh(t, ports)
		for port := range api.MaxPorts {
			want := api.OK
			if port >= ports {
				want = api.ErrPort
			}
			wantInsert(t, s, api.Rule{ID: port, Action: api.Send, Port: port}, want)
		}
	}
}

func TestFullOfRules(t *testing.T) {
	s := fresh(t, 2)
	for i := range api.MaxRules {
		wantInsert(t, s, api.Rule{ID: i, Priority: i % 3, Action: i % 2}, api.OK)
	}
	wantInsert(t, s, api.Rule{ID: 200}, api.ErrFull)
	wantInsert(t, s, api.Rule{ID: 200, Action: api.Send, Port: 2}, api.ErrPort)
	wantInsert(t, s, api.Rule{ID: 200, Port: 2}, api.ErrRule)
	wantInsert(t, s, api.Rule{ID: 199}, api.ErrTwice)
	wantDelete(t, s, 7, api.OK)
	wantInsert(t, s, api.Rule{ID: 200}, api.OK)
	wantInsert(t, s, api.Rule{ID: 7}, api.ErrFull)
}

func TestDeleteOfNone(t *testing.T) {
	s := fresh(t, 2)
	for _, id := range []int{0, -1, math.MaxInt, math.MinInt} {
		wantDelete(t, s, id, api.ErrNone)
	}
	wantInsert(t, s, api.Rule{ID: math.MaxInt, Action: api.Deny}, api.OK)
	wantDelete(t, s, 0, api.ErrNone)
	wantFate(t, s, 0, b+a+ip+ping.packet(""), api.Denied)
	wantDelete(t, s, math.MaxInt, api.OK)
	wantDelete(t, s, math.MaxInt, api.ErrNone)
}

// Beside an error a rule's action stays what it was.
func TestInsertChangesNothingBesideAnError(t *testing.T) {
	s := fresh(t, 2)
	data := b + a + ip + ping.packet("")
	wantInsert(t, s, api.Rule{ID: 3, Action: api.Deny}, api.OK)
	wantInsert(t, s, api.Rule{ID: 3}, api.ErrTwice)
	wantInsert(t, s, api.Rule{ID: 3, Action: api.Send, Port: 1}, api.ErrTwice)
	wantInsert(t, s, api.Rule{ID: 3, Action: api.Send, Port: 5}, api.ErrPort)
	wantInsert(t, s, api.Rule{ID: 3, Action: 9}, api.ErrRule)
	wantFate(t, s, 0, data, api.Denied)
	wantDelete(t, s, 3, api.OK)
	wantSent(t, s, 0, data, out(1, data))
}

func TestSettingsOfSwitchesAreApart(t *testing.T) {
	s, other := fresh(t, 2), fresh(t, 2)
	wantFace(t, s, 1, b, api.OK)
	wantRoute(t, s, 0, 0, 1, c, api.OK)
	wantInsert(t, s, api.Rule{ID: 3, Action: api.Deny}, api.OK)
	data := b + a + ip + ping.packet("")
	wantSent(t, other, 0, data, out(1, data))
	wantFace(t, other, 1, "", api.ErrNone)
	wantUnroute(t, other, 0, 0, api.ErrNone)
	wantDelete(t, other, 3, api.ErrNone)
	wantFate(t, s, 0, data, api.Denied)
}

// What is handed in is not kept: the bytes behind a MAC may be another's later.
func TestFaceAndRouteKeepNothing(t *testing.T) {
	s := fresh(t, 2)
	face, hop := []byte(b), []byte(c)
	wantFace(t, s, 1, unsafe.String(&face[0], 6), api.OK)
	wantRoute(t, s, 0, 0, 1, unsafe.String(&hop[0], 6), api.OK)
	face[1], hop[1] = 'x', 'x'
	routed := c + b + ip + ping.hop().packet("")
	wantSent(t, s, 0, b+a+ip+ping.packet(""), out(0, routed), out(1, routed))
}
