package portico_test

import (
	"slices"
	"testing"

	"portico/api"
	"portico/portico"
)

const (
	a     = "\x02aaaaa"
	b     = "\x02bbbbb"
	c     = "\x02ccccc"
	group = "\x03group"
	every = "\xff\xff\xff\xff\xff\xff"
	text  = "\x12\x34text"
)

// tag makes the bytes of a tag.
func tag(vlan, mark int) string {
	return "\x81\x00" + string([]byte{byte(mark<<4 | vlan>>8), byte(vlan)})
}

// name makes the MAC of a number.
func name(i int) string { return "\x02name" + string([]byte{byte(i)}) }

func fresh(t *testing.T, ports int) *portico.Switch {
	t.Helper()
	s, err := portico.New(ports)
	if s == nil || err != api.OK {
		t.Fatalf("New(%d) = %v, %d", ports, s, err)
	}
	return s
}

func wantPort(t *testing.T, s *portico.Switch, port, native int, tagged []int, want api.Errno) {
	t.Helper()
	if got := s.Port(port, native, tagged); got != want {
		t.Errorf("Port(%d, %d, %v) = %d, want %d", port, native, tagged, got, want)
	}
}

func wantTick(t *testing.T, s *portico.Switch, seconds int, want api.Errno) {
	t.Helper()
	if got := s.Tick(seconds); got != want {
		t.Errorf("Tick(%d) = %d, want %d", seconds, got, want)
	}
}

// wantSent holds what goes out against a list.
func wantSent(t *testing.T, s *portico.Switch, port int, data string, want ...api.Out) {
	t.Helper()
	if got, fate := s.Frame(port, data); fate != api.Sent || !slices.Equal(got, want) {
		t.Errorf("Frame(%d, %q) = %+v, %d, want %+v, sent", port, data, got, fate, want)
	}
}

// wantFate holds the fate of a frame that does not go out against another.
func wantFate(t *testing.T, s *portico.Switch, port int, data string, want int) {
	t.Helper()
	if got, fate := s.Frame(port, data); fate != want || len(got) != 0 {
		t.Errorf("Frame(%d, %q) = %+v, %d, want nothing, %d", port, data, got, fate, want)
	}
}

func wantMacs(t *testing.T, s *portico.Switch, want ...api.Mac) {
	t.Helper()
	if got := s.Macs(); !slices.Equal(got, want) {
		t.Errorf("Macs() = %+v, want %+v", got, want)
	}
}

func out(port int, data string) api.Out { return api.Out{Port: port, Data: data} }
