package portico_test

import (
	"slices"
	"testing"

	"portico/api"
	"portico/portico"
)

const (
	a     = "\x02aaaaa"
	b     = "\x02bbbbb"
	c     = "\x02ccccc"
	group = "\x03group"
	every = "\xff\xff\xff\xff\xff\xff"
	text  = "\x12\x34text"
)

// tag makes the bytes of a tag.
func tag(vlan, mark int) string {
	return "\x81\x00" + string([]byte{byte(mark<<4 | vlan>>8), byte(vlan)})
}

// name makes the MAC of a number.
func name(i int) string { return "\x02name" + string([]byte{byte(i)}) }

func fresh(t *testing.T, ports int) *portico.Switch {
	t.Helper()
	s, err := portico.New(ports)
	if s == nil || err != api.OK {
		t.Fatalf("New(%d) = %v, %d", ports, s, err)
	}
	return s
}

func wantPort(t *testing.T, s *portico.Switch, port, native int, tagged []int, want api.Errno) {
	t.Helper()
	if got := s.Port(port, native, tagged); got != want {
		t.Errorf("Port(%d, %d, %v) = %d, want %d", port, native, tagged, got, want)
	}
}

func wantTick(t *testing.T, s *portico.Switch, seconds int, want api.Errno) {
	t.Helper()
	if got := s.Tick(seconds); got != want {
		t.Errorf("Tick(%d) = %d, want %d", seconds, got, want)
	}
}

// wantSent holds what goes out against a list.
func wantSent(t *testing.T, s *portico.Switch, port int, data string, want ...api.Out) {
	t.Helper()
	if got, fate := s.Frame(port, data); fate != api.Sent || !slices.Equal(got, want) {
		t.Errorf("Frame(%d, %q) = %+v, %d, want %+v, sent", port, data, got, fate, want)
	}
}

// wantFate holds the fate of a frame that does not go out against another.
func wantFate(t *testing.T, s *portico.Switch, port int, data string, want int) {
	t.Helper()
	if got, fate := s.Frame(port, data); fate != want || len(got) != 0 {
		t.Errorf("Frame(%d, %q) = %+v, %d, want nothing, %d", port, data, got, fate, want)
	}
}

func wantMacs(t *testing.T, s *portico.Switch, want ...api.Mac) {
	t.Helper()
	if got := s.Macs(); !slices.Equal(got, want) {
		t.Errorf("Macs() = %+v, want %+v", got, want)
	}
}

func out(port int, data string) api.Out { return api.Out{Port: port, Data: data} }

func wantFace(t *testing.T, s *portico.Switch, vlan int, mac string, want api.Errno) {
	t.Helper()
	if got := s.Face(vlan, mac); got != want {
		t.Errorf("Face(%d, %q) = %d, want %d", vlan, mac, got, want)
	}
}

func wantRoute(t *testing.T, s *portico.Switch, prefix, length, vlan int, mac string, want api.Errno) {
	t.Helper()
	if got := s.Route(prefix, length, vlan, mac); got != want {
		t.Errorf("Route(%x, %d, %d, %q) = %d, want %d", prefix, length, vlan, mac, got, want)
	}
}

func wantUnroute(t *testing.T, s *portico.Switch, prefix, length int, want api.Errno) {
	t.Helper()
	if got := s.Unroute(prefix, length); got != want {
		t.Errorf("Unroute(%x, %d) = %d, want %d", prefix, length, got, want)
	}
}

func wantInsert(t *testing.T, s *portico.Switch, r api.Rule, want api.Errno) {
	t.Helper()
	if got := s.Insert(r); got != want {
		t.Errorf("Insert(%+v) = %d, want %d", r, got, want)
	}
}

func wantDelete(t *testing.T, s *portico.Switch, id int, want api.Errno) {
	t.Helper()
	if got := s.Delete(id); got != want {
		t.Errorf("Delete(%d) = %d, want %d", id, got, want)
	}
}

// ip is the type of frames that carry IPv4 packets.
const ip = "\x08\x00"

// number makes so many bytes of n.
func number(n, size int) string {
	b := make([]byte, size)
	for i := range b {
		b[size-1-i] = byte(n >> (8 * i))
	}
	return string(b)
}

// sum adds up words of 16 bits in ones' complement.
func sum(s string) int {
	n := 0
	for i := 0; i < len(s); i += 2 {
		n += int(s[i])*256 + int(s[i+1])
	}
	for n > 65535 {
		n = n%65536 + n/65536
	}
	return n
}

// header is what a packet is made of; all but its options and what is behind them are numbers.
type header struct {
	ttl, protocol, fragment, from, to int
	options                           string
}

// packet makes a right packet, with what is behind its header.
func (h header) packet(behind string) string {
	length := 20 + len(h.options)
	head := number(4<<4|length/4, 1) + "\x05" + number(length+len(behind), 2) + "\x12\x34" + number(h.fragment, 2) + number(h.ttl, 1) + number(h.protocol, 1)
	tail := number(h.from, 4) + number(h.to, 4) + h.options
	return head + number(65535-sum(head+tail), 2) + tail + behind
}

// hop is the header one hop on.
func (h header) hop() header {
	h.ttl--
	return h
}
