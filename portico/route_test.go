package portico_test

import (
	"strings"
	"testing"

	"portico/api"
	"portico/portico"
)

const (
	face1 = "\x02face1"
	face2 = "\x02face2"
	face9 = "\x02face9"
)

// crossing makes a switch whose ports have native VLANs 1, 2, 3, and all of them the tagged one 9; with faces but of 3.
func crossing(t *testing.T) *portico.Switch {
	t.Helper()
	s := fresh(t, 3)
	for i := range 3 {
		wantPort(t, s, i, i+1, []int{9}, api.OK)
	}
	wantFace(t, s, 1, face1, api.OK)
	wantFace(t, s, 2, face2, api.OK)
	wantFace(t, s, 9, face9, api.OK)
	return s
}

// Each of these packets would have the fates of those that follow it, too.
func TestTheFirstFateOfARouteIsTold(t *testing.T) {
	s := crossing(t)
	wantInsert(t, s, api.Rule{ID: 1, Action: api.Deny}, api.OK)
	old := ping
	old.ttl = 1
	right := old.packet("hi")
	bad := right[:10] + "\x00\x00" + right[12:]
	wantFate(t, s, 0, face1+a+ip+right, api.Denied)
	wantFate(t, s, 0, face1+a+ip+bad, api.BadIP)
	wantDelete(t, s, 1, api.OK)
	wantFate(t, s, 0, face1+a+ip+bad, api.BadIP)
	wantFate(t, s, 0, face1+a+ip+right, api.Expired)
	wantFate(t, s, 0, face1+a+ip+ping.packet("hi"), api.NoRoute)
	wantMacs(t, s, api.Mac{VLAN: 1, MAC: a})
}

func TestBadIP(t *testing.T) {
	s := crossing(t)
	wantRoute(t, s, 0, 0, 2, c, api.OK)
	right := ping.packet("hi")
	routed := c + face2 + ip + ping.hop().packet("hi")
	wantSent(t, s, 0, face1+a+ip+right, out(1, routed))
	wantSent(t, s, 0, face1+a+ip+right+"behind", out(1, routed+"behind"))
	for n := range right {
		wantFate(t, s, 0, face1+a+ip+right[:n], api.BadIP)
	}
	wantFate(t, s, 0, face9+a+tag(9, 0)+ip, api.BadIP)
}

func TestExpired(t *testing.T) {
	s := crossing(t)
	wantRoute(t, s, 0, 0, 2, c, api.OK)
	for ttl := range 256 {
		h := ping
		h.ttl = ttl
		if ttl < 2 {
			wantFate(t, s, 0, face1+a+ip+h.packet("hi"), api.Expired)
		} else {
			wantSent(t, s, 0, face1+a+ip+h.packet("hi"), out(1, c+face2+ip+h.hop().packet("hi")))
		}
	}
}

func TestNoRoute(t *testing.T) {
	s := crossing(t)
	data := face1 + a + ip + ping.packet("hi")
	wantFate(t, s, 0, data, api.NoRoute)
	wantRoute(t, s, 11<<24, 8, 2, c, api.OK)
	wantRoute(t, s, 10<<24|2, 31, 2, c, api.OK)
	wantFate(t, s, 0, data, api.NoRoute)
	// The longest prefix is taken, though the face of its VLAN is not there and that of a shorter one's is.
	wantRoute(t, s, 0, 0, 2, c, api.OK)
	wantRoute(t, s, 10<<24, 8, 3, b, api.OK)
	wantFate(t, s, 0, data, api.NoRoute)
	wantFace(t, s, 3, "\x02face3", api.OK)
	wantSent(t, s, 0, data, out(2, b+"\x02face3"+ip+ping.hop().packet("hi")))
	wantFace(t, s, 3, "", api.OK)
	wantFate(t, s, 0, data, api.NoRoute)
	wantUnroute(t, s, 10<<24, 8, api.OK)
	wantSent(t, s, 0, data, out(1, c+face2+ip+ping.hop().packet("hi")))
}

func TestTheLongestRouteIsTaken(t *testing.T) {
	s := fresh(t, 1)
	wantFace(t, s, 1, face1, api.OK)
	data := func(to string, ttl int) string {
		h := ping
		h.ttl, h.to = ttl, 1<<32-1
		return to + h.packet("")
	}
	for _, length := range []int{16, 0, 32, 31, 1, 8} {
		wantRoute(t, s, 1<<32-1<<(32-length), length, 1, name(length), api.OK)
	}
	for _, length := range []int{32, 31, 16, 8, 1, 0} {
		wantSent(t, s, 0, data(face1+a+ip, 9), out(0, data(name(length)+face1+ip, 8)))
		wantUnroute(t, s, 1<<32-1<<(32-length), length, api.OK)
	}
	wantFate(t, s, 0, data(face1+a+ip, 9), api.NoRoute)
}

// Frames that are not for their VLAN's face, or of another type, are carried within the VLAN.
func TestWhatIsNotRouted(t *testing.T) {
	s := crossing(t)
	wantRoute(t, s, 0, 0, 2, c, api.OK)
	wantPort(t, s, 2, 1, nil, api.OK)
	for _, data := range []string{
		face2 + a + ip + ping.packet("hi"),
		face9 + a + ip + ping.packet("hi"),
		every + a + ip + ping.packet("hi"),
		b + a + ip + "no packet",
		b + a + ip,
		face1 + a + "\x08\x06" + ping.packet("hi"),
		face1 + a + "\x00\x08" + ping.packet("hi"),
		face1 + a + text,
	} {
		wantSent(t, s, 0, data, out(2, data))
	}
	// A tag behind the tag is a type of its own.
	wantPort(t, s, 2, 0, []int{9}, api.OK)
	data := face9 + a + tag(9, 1) + tag(9, 1) + ip + ping.packet("hi")
	wantSent(t, s, 0, data, out(1, data), out(2, data))
}

// A frame of another type goes to whoever the face's MAC is known of.
func TestAFaceThatIsKnown(t *testing.T) {
	s := fresh(t, 3)
	wantFace(t, s, 1, face1, api.OK)
	wantSent(t, s, 2, every+face1+text, out(0, every+face1+text), out(1, every+face1+text))
	wantSent(t, s, 0, face1+a+text, out(2, face1+a+text))
	wantFate(t, s, 0, face1+a+ip+ping.packet("hi"), api.NoRoute)
}

// Routed frames are of the route's VLAN, and have the mark 0, however they came.
func TestRoutedTags(t *testing.T) {
	s := crossing(t)
	hopped := ping.hop().packet("hi")
	wantRoute(t, s, 0, 0, 2, c, api.OK)
	wantPort(t, s, 2, 3, []int{2, 9}, api.OK)
	for mark := range 16 {
		wantSent(t, s, 0, face9+a+tag(9, mark)+ip+ping.packet("hi"),
			out(1, c+face2+ip+hopped), out(2, c+face2+tag(2, 0)+ip+hopped))
	}
	wantSent(t, s, 0, face1+a+ip+ping.packet("hi"),
		out(1, c+face2+ip+hopped), out(2, c+face2+tag(2, 0)+ip+hopped))
	// Into the VLAN that it came from, too.
	wantRoute(t, s, 0, 0, 9, c, api.OK)
	again := c + face9 + tag(9, 0) + ip + hopped
	wantSent(t, s, 0, face9+a+tag(9, 7)+ip+ping.packet("hi"), out(0, again), out(1, again), out(2, again))
}

// A routed frame may go out where it came in, known or not.
func TestRoutedBack(t *testing.T) {
	s := crossing(t)
	wantRoute(t, s, 0, 0, 1, c, api.OK)
	routed := c + face1 + ip + ping.hop().packet("hi")
	data := face1 + a + ip + ping.packet("hi")
	wantSent(t, s, 0, data, out(0, routed))
	wantFate(t, s, 0, a+c+text, api.Nowhere)
	wantSent(t, s, 0, data, out(0, routed))
	// To the sender itself.
	wantRoute(t, s, 0, 0, 1, a, api.OK)
	wantSent(t, s, 0, data, out(0, a+routed[6:]))
}

// The route's MAC is looked for in the route's VLAN.
func TestRoutedToWhoIsKnown(t *testing.T) {
	s := crossing(t)
	wantRoute(t, s, 0, 0, 9, c, api.OK)
	data := face1 + a + ip + ping.packet("hi")
	routed := c + face9 + tag(9, 0) + ip + ping.hop().packet("hi")
	wantSent(t, s, 0, data, out(0, routed), out(1, routed), out(2, routed))
	// Known in another VLAN.
	wantFate(t, s, 1, b+c+text, api.Nowhere)
	wantSent(t, s, 0, data, out(0, routed), out(1, routed), out(2, routed))
	wantSent(t, s, 2, a+c+tag(9, 3)+text, out(0, a+c+tag(9, 3)+text), out(1, a+c+tag(9, 3)+text))
	wantSent(t, s, 0, data, out(2, routed))
	// Its port is none of the VLAN any more.
	wantPort(t, s, 2, 1, nil, api.OK)
	wantFate(t, s, 0, data, api.Nowhere)
	wantTick(t, s, 301, api.OK)
	wantSent(t, s, 0, data, out(0, routed), out(1, routed))
}

func TestRoutedToAVLANWithoutPorts(t *testing.T) {
	s := crossing(t)
	wantFace(t, s, 20, b, api.OK)
	wantRoute(t, s, 0, 0, 20, c, api.OK)
	wantFate(t, s, 0, face1+a+ip+ping.packet("hi"), api.Nowhere)
}

// The source is learned in the VLAN in which it came, and nothing in the route's.
func TestWhatRoutingLearns(t *testing.T) {
	s := crossing(t)
	wantRoute(t, s, 0, 0, 2, c, api.OK)
	wantSent(t, s, 0, face1+a+ip+ping.packet("hi"), out(1, c+face2+ip+ping.hop().packet("hi")))
	wantFate(t, s, 1, face2+b+ip+"bad", api.BadIP)
	wantMacs(t, s, api.Mac{VLAN: 1, MAC: a, Port: 0}, api.Mac{VLAN: 2, MAC: b, Port: 1})
}

// A frame is routed once: the hop may have the MAC of another face.
func TestRoutedOnce(t *testing.T) {
	s := crossing(t)
	wantRoute(t, s, 0, 0, 2, face2, api.OK)
	wantSent(t, s, 0, face1+a+ip+ping.packet("hi"), out(1, face2+face2+ip+ping.hop().packet("hi")))
}

// P7: a routed packet is right, its TTL is one less, and behind its header nothing is changed.
func TestRoutedPacketsAreRight(t *testing.T) {
	s := crossing(t)
	wantRoute(t, s, 0, 0, 2, c, api.OK)
	for i := range 65536 {
		// So many addresses, TTLs and options that the checksums lie everywhere.
		h := header{ttl: 2 + i%254, protocol: 1, from: i, to: i % 7}
		if i%16 == 0 {
			h.options = strings.Repeat(number(i, 4), 1+i/16%10)
		}
		before := h.packet("behind")
		outs, fate := s.Frame(0, face1+a+ip+before)
		if fate != api.Sent || len(outs) != 1 {
			t.Fatalf("Frame(%q) = %+v, %d", before, outs, fate)
		}
		after, head := outs[0].Data[14:], 20+len(h.options)
		if sum(after[:head]) != 65535 || int(after[8]) != h.ttl-1 || after[head:] != before[head:] || after[:8] != before[:8] || after[12:head] != before[12:head] {
			t.Fatalf("%q became %q", before, after)
		}
	}
}

// A frame of all bytes that it may have is routed, and has more of them with a tag.
func TestRoutedLong(t *testing.T) {
	s := crossing(t)
	wantRoute(t, s, 0, 0, 9, c, api.OK)
	behind := strings.Repeat("x", api.MaxFrame-14-20)
	routed := c + face9 + tag(9, 0) + ip + ping.hop().packet(behind)
	wantSent(t, s, 0, face1+a+ip+ping.packet(behind), out(0, routed), out(1, routed), out(2, routed))
	wantFate(t, s, 0, face1+a+ip+ping.packet(behind+"x"), api.Long)
}
