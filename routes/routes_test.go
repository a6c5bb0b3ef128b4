package routes_test

import (
	"math"
	"math/rand"
	"strings"
	"testing"
	"unsafe"

	"portico/api"
	"portico/routes"
)

const mac = "\x02aaaaa"

func prefix(bits, length int) routes.Prefix { return routes.Prefix{Bits: bits, Length: length} }

func wantFind(t *testing.T, r *routes.Routes, address int, want routes.Hop, wantThere bool) {
	t.Helper()
	if got, there := r.Find(address); got != want || there != wantThere {
		t.Errorf("Find(%x) = %+v, %t, want %+v, %t", address, got, there, want, wantThere)
	}
}

func TestIsRight(t *testing.T) {
	for length := range 33 {
		unit := 1 << (32 - length)
		for _, bits := range []int{0, 1, unit / 2, unit, unit * 2, 1<<32 - unit, 1<<32 - unit/2, 1<<32 - 1, 1 << 32, -1, -unit, -1 << 32, math.MaxInt, math.MinInt} {
			want := 0 <= bits && bits < 1<<32 && bits%unit == 0
			if got := prefix(bits, length).IsRight(); got != want {
				t.Errorf("%x/%d: %t, want %t", bits, length, got, want)
			}
		}
	}
	for _, length := range []int{-1, 33, 64, 65, math.MaxInt, math.MinInt} {
		for _, bits := range []int{0, 1, 1 << 31, -1} {
			if prefix(bits, length).IsRight() {
				t.Errorf("%x/%d is right", bits, length)
			}
		}
	}
}

func TestNoRoutes(t *testing.T) {
	r := routes.New()
	wantFind(t, r, 0, routes.Hop{}, false)
	if r.Delete(prefix(0, 0)) || r.Delete(prefix(-1, 99)) {
		t.Error("a route that is not there was deleted")
	}
}

func TestTheLongestIsFound(t *testing.T) {
	r := routes.New()
	const address = 0xc0a80107
	for _, length := range []int{8, 32, 0, 31, 1, 16, 24} {
		r.Set(prefix(address&^(1<<(32-length)-1), length), routes.Hop{VLAN: 1 + length, MAC: mac})
	}
	for _, length := range []int{32, 31, 24, 16, 8, 1, 0} {
		wantFind(t, r, address, routes.Hop{VLAN: 1 + length, MAC: mac}, true)
		if length > 0 {
			beside := address ^ 1<<(32-length)
			if hop, there := r.Find(beside); !there || hop.VLAN > length {
				t.Errorf("Find(%x) = %+v, %t", beside, hop, there)
			}
		}
		if p := prefix(address&^(1<<(32-length)-1), length); !r.Delete(p) || r.Delete(p) {
			t.Errorf("Delete of length %d", length)
		}
	}
	wantFind(t, r, address, routes.Hop{}, false)
}

func TestSetAnew(t *testing.T) {
	r := routes.New()
	r.Set(prefix(1<<31, 1), routes.Hop{VLAN: 1, MAC: mac})
	r.Set(prefix(1<<31, 1), routes.Hop{VLAN: 2, MAC: mac})
	r.Set(prefix(1<<31, 2), routes.Hop{VLAN: 3, MAC: mac})
	wantFind(t, r, 1<<32-1, routes.Hop{VLAN: 2, MAC: mac}, true)
	wantFind(t, r, 1<<31, routes.Hop{VLAN: 3, MAC: mac}, true)
	wantFind(t, r, 1<<31-1, routes.Hop{}, false)
}

func TestFull(t *testing.T) {
	r := routes.New()
	for i := range api.MaxRoutes {
		if !r.Set(prefix(i, 32), routes.Hop{VLAN: 1 + i, MAC: mac}) {
			t.Fatalf("no room for route %d", i)
		}
	}
	if r.Set(prefix(0, 31), routes.Hop{VLAN: 9, MAC: mac}) {
		t.Error("room for one more")
	}
	if !r.Set(prefix(99, 32), routes.Hop{VLAN: 9, MAC: mac}) {
		t.Error("no room for one that is there")
	}
	wantFind(t, r, 99, routes.Hop{VLAN: 9, MAC: mac}, true)
	if !r.Delete(prefix(0, 32)) || !r.Set(prefix(0, 31), routes.Hop{VLAN: 9, MAC: mac}) {
		t.Error("no room for one behind Delete")
	}
	wantFind(t, r, 0, routes.Hop{VLAN: 9, MAC: mac}, true)
	wantFind(t, r, 1, routes.Hop{VLAN: 2, MAC: mac}, true)
}

// Whatever was set and deleted, it is the longest prefix that a plain look at all of them finds.
func TestAgainstAPlainMap(t *testing.T) {
	rnd := rand.New(rand.NewSource(5))
	r, plain := routes.New(), map[routes.Prefix]routes.Hop{}
	for step := range 5000 {
		length := rnd.Intn(33)
		p := prefix(rnd.Intn(16)<<28&^(1<<(32-length)-1)|rnd.Intn(4)&^(1<<(32-length)-1), length)
		if rnd.Intn(2) == 0 {
			if r.Set(p, routes.Hop{VLAN: 1 + step, MAC: mac}) {
				plain[p] = routes.Hop{VLAN: 1 + step, MAC: mac}
			}
		} else {
			_, there := plain[p]
			if r.Delete(p) != there {
				t.Fatalf("Delete(%+v) is not %t", p, there)
			}
			delete(plain, p)
		}
		address := rnd.Intn(16)<<28 | rnd.Intn(4)
		want, there := longest(plain, address)
		wantFind(t, r, address, want, there)
	}
}

func longest(plain map[routes.Prefix]routes.Hop, address int) (routes.Hop, bool) {
	for length := 32; length >= 0; length-- {
		if hop, there := plain[prefix(address>>(32-length)<<(32-length), length)]; there {
			return hop, true
		}
	}
	return routes.Hop{}, false
}

func TestSetKeepsNothingOfWhatItIsGiven(t *testing.T) {
	r := routes.New()
	given := strings.Repeat(mac, 50)
	r.Set(prefix(0, 0), routes.Hop{VLAN: 1, MAC: given[:6]})
	if hop, _ := r.Find(0); hop.MAC != mac || unsafe.StringData(hop.MAC) == unsafe.StringData(given) {
		t.Error("the MAC is a piece of what was given")
	}
}
