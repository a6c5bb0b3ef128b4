package macs_test

import (
	"slices"
	"strings"
	"testing"
	"unsafe"

	"portico/api"
	"portico/macs"
)

const (
	a = "\x02aaaaa"
	b = "\x02bbbbb"
)

func wantAll(t *testing.T, k *macs.Known, want ...api.Mac) {
	t.Helper()
	if got := k.All(); !slices.Equal(got, want) {
		t.Errorf("All() = %+v, want %+v", got, want)
	}
}

func wantPort(t *testing.T, k *macs.Known, vlan int, mac string, want int, wantKnown bool) {
	t.Helper()
	if got, known := k.Port(vlan, mac); got != want || known != wantKnown {
		t.Errorf("Port(%d, %q) = %d, %t, want %d, %t", vlan, mac, got, known, want, wantKnown)
	}
}

func TestNothingIsKnownAtFirst(t *testing.T) {
	k := macs.New()
	wantAll(t, k)
	wantPort(t, k, 1, a, 0, false)
}

func TestLearn(t *testing.T) {
	k := macs.New()
	k.Learn(1, a, 3)
	wantPort(t, k, 1, a, 3, true)
	wantPort(t, k, 2, a, 0, false)
	wantPort(t, k, 1, b, 0, false)
	k.Learn(2, a, 5)
	k.Learn(1, a, 4)
	wantPort(t, k, 1, a, 4, true)
	wantPort(t, k, 2, a, 5, true)
}

func TestAllIsInOrder(t *testing.T) {
	k := macs.New()
	k.Learn(10, a, 0)
	k.Learn(2, "\xfe\x00\x00\x00\x00\x00", 1)
	k.Learn(2, "\x7eaaaaa", 2)
	k.Learn(2, "\x02bbbba", 3)
	k.Learn(2, b, 4)
	k.Learn(1, "\xfezzzzz", 5)
	wantAll(t, k,
		api.Mac{VLAN: 1, MAC: "\xfezzzzz", Port: 5},
		api.Mac{VLAN: 2, MAC: "\x02bbbba", Port: 3},
		api.Mac{VLAN: 2, MAC: b, Port: 4},
		api.Mac{VLAN: 2, MAC: "\x7eaaaaa", Port: 2},
		api.Mac{VLAN: 2, MAC: "\xfe\x00\x00\x00\x00\x00", Port: 1},
		api.Mac{VLAN: 10, MAC: a, Port: 0})
}

func TestTick(t *testing.T) {
	k := macs.New()
	k.Learn(1, a, 0)
	k.Tick(100)
	k.Learn(1, b, 1)
	k.Tick(0)
	wantAll(t, k, api.Mac{VLAN: 1, MAC: a, Age: 100}, api.Mac{VLAN: 1, MAC: b, Port: 1})
	k.Tick(200)
	wantAll(t, k, api.Mac{VLAN: 1, MAC: a, Age: 300}, api.Mac{VLAN: 1, MAC: b, Port: 1, Age: 200})
	k.Tick(1)
	wantAll(t, k, api.Mac{VLAN: 1, MAC: b, Port: 1, Age: 201})
	wantPort(t, k, 1, a, 0, false)
	k.Learn(1, b, 2)
	wantAll(t, k, api.Mac{VLAN: 1, MAC: b, Port: 2})
	k.Tick(1000000)
	wantAll(t, k)
}

// Time goes by without end: a clock that counts it would run over.
func TestMuchTime(t *testing.T) {
	k := macs.New()
	const most = int(^uint(0) >> 1)
	for range 5 {
		k.Learn(1, a, 0)
		k.Tick(most - 1000)
		wantAll(t, k)
	}
	k.Learn(1, a, 0)
	k.Tick(300)
	wantAll(t, k, api.Mac{VLAN: 1, MAC: a, Age: 300})
}

// name makes the MAC of a number.
func name(i int) string { return "\x02name" + string([]byte{byte(i)}) }

func TestFull(t *testing.T) {
	k := macs.New()
	for i := range api.MaxMacs {
		k.Learn(1+i%2, name(i), 0)
	}
	k.Learn(1, a, 1)
	k.Learn(2, name(0), 1)
	wantPort(t, k, 1, a, 0, false)
	wantPort(t, k, 2, name(0), 0, false)
	if n := len(k.All()); n != api.MaxMacs {
		t.Errorf("%d are known", n)
	}
	// What is known still moves, and is young again.
	k.Tick(300)
	k.Learn(1, name(0), 7)
	wantPort(t, k, 1, name(0), 7, true)
	k.Learn(1, a, 1)
	wantPort(t, k, 1, a, 0, false)
	// What is too old makes room.
	k.Tick(1)
	k.Learn(1, a, 1)
	wantAll(t, k, api.Mac{VLAN: 1, MAC: a, Port: 1}, api.Mac{VLAN: 1, MAC: name(0), Port: 7, Age: 1})
}

func TestAllIsNewMemory(t *testing.T) {
	k := macs.New()
	k.Learn(1, a, 0)
	l := k.All()
	l[0].Port = 9
	wantAll(t, k, api.Mac{VLAN: 1, MAC: a})
}

func TestLearnKeepsNoPieceOfWhatItIsGiven(t *testing.T) {
	k := macs.New()
	given := strings.Repeat("\x02aaaaa", 50)
	k.Learn(1, given[:6], 0)
	k.Learn(1, given[:6], 1)
	if unsafe.StringData(k.All()[0].MAC) == unsafe.StringData(given) {
		t.Error("the MAC is a piece of what was given")
	}
}
