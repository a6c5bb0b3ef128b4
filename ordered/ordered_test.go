package ordered

import (
	"cmp"
	"maps"
	"math/rand"
	"slices"
	"testing"
)

// falling is a key whose own method orders it, the greatest ahead.
type falling int

func (a falling) compare(b falling) int { return cmp.Compare(b, a) }

func keysOf(m *Map[falling, string]) []falling {
	var l []falling
	for k := range m.All() {
		l = append(l, k)
	}
	return l
}

func TestKeepsTheOrderThatIsHandedIn(t *testing.T) {
	m := New[falling, string](falling.compare)
	for _, k := range []falling{2, 9, 4, 9} {
		m.Put(k, "x")
	}
	if l := keysOf(m); !slices.Equal(l, []falling{9, 4, 2}) {
		t.Errorf("keys %v", l)
	}
}

func TestPutTwiceGetDelete(t *testing.T) {
	m := New[falling, string](falling.compare)
	if v, there := m.Get(1); v != "" || there {
		t.Errorf("Get of an empty map: %q, %t", v, there)
	}
	if m.Delete(1) {
		t.Error("Delete(1) of an empty map")
	}
	m.Put(1, "a")
	m.Put(1, "b")
	if v, there := m.Get(1); v != "b" || !there || m.Len() != 1 {
		t.Errorf("Get(1) = %q, %t of %d", v, there, m.Len())
	}
	if m.Delete(2) || !m.Delete(1) || m.Delete(1) {
		t.Error("Delete tells otherwise than what was there")
	}
	if v, there := m.Get(1); v != "" || there || m.Len() != 0 {
		t.Errorf("Get(1) behind Delete = %q, %t of %d", v, there, m.Len())
	}
}

func TestPutWithin(t *testing.T) {
	m := New[falling, string](falling.compare)
	if m.PutWithin(0, 1, "none") || m.Len() != 0 {
		t.Error("one within none")
	}
	if !m.PutWithin(2, 1, "a") || !m.PutWithin(2, 5, "b") || m.PutWithin(2, 3, "c") {
		t.Error("there is room for two")
	}
	if !m.PutWithin(2, 1, "d") || !m.PutWithin(1, 5, "e") {
		t.Error("no room for what is there")
	}
	if v, _ := m.Get(1); v != "d" || !slices.Equal(keysOf(m), []falling{5, 1}) {
		t.Errorf("%q under 1, keys %v", v, keysOf(m))
	}
	m.Delete(5)
	if !m.PutWithin(2, 3, "c") || m.PutWithin(2, 5, "b") {
		t.Error("there is room for one behind Delete")
	}
}

func TestAllMayBeLeftEarly(t *testing.T) {
	m := New[int, int](cmp.Compare[int])
	for k := range 5 {
		m.Put(k, k*k)
	}
	seen := 0
	for k, v := range m.All() {
		seen++
		if v != k*k {
			t.Errorf("%d under %d", v, k)
		}
		if k == 2 {
			break
		}
	}
	if seen != 3 {
		t.Errorf("%d seen", seen)
	}
}

func TestAgainstAPlainMap(t *testing.T) {
	r := rand.New(rand.NewSource(2))
	m, plain := New[int, int](cmp.Compare[int]), map[int]int{}
	for step := range 3000 {
		k := r.Intn(40)
		if r.Intn(2) == 0 {
			m.Put(k, step)
			plain[k] = step
		} else {
			m.Delete(k)
			delete(plain, k)
		}
		var keys []int
		for k, v := range m.All() {
			keys = append(keys, k)
			if plain[k] != v {
				t.Fatalf("step %d: %d under %d, want %d", step, v, k, plain[k])
			}
		}
		if !slices.Equal(keys, slices.Sorted(maps.Keys(plain))) || m.Len() != len(plain) {
			t.Fatalf("step %d: keys %v", step, keys)
		}
	}
}
