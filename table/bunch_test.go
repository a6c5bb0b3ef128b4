package table

import (
	"testing"

	"portico/api"
)

// looked tells how many rules lie in the leaves that a key comes to.
func looked(t *Table, k api.Key) int {
	n := 0
	for _, grown := range t.trees {
		n += len(grown.Leaf(k[:]))
	}
	return n
}

// Trees are cut so that of many rules few have to be looked at.
func TestFewRulesAreLookedAt(t *testing.T) {
	x := New()
	for i := range api.MaxRules {
		r := api.Rule{ID: i}
		switch i % 4 {
		case 0:
			r.Match[0] = api.Match{V: i << 24, M: 0xff << 24}
		case 1:
			r.Match[1] = api.Match{V: i << 16, M: 0xffff << 16}
		case 2:
			r.Match[2] = api.Match{Kind: api.Range, V: i, M: i}
		case 3:
			r.Match[4] = api.Match{Kind: api.Range, V: i * 10, M: i*10 + 9}
		}
		if e := x.Insert(r); e != api.OK {
			t.Fatalf("Insert(%+v) = %d", r, e)
		}
	}
	for i := range 256 {
		k := api.Key{i << 24, i << 16, i, 0, i * 10}
		if n := looked(x, k); n > 16 {
			t.Errorf("%d rules looked at for %v", n, k)
		}
	}
}

// Rules that no cut parts are no more than once in their tree.
func TestRulesThatNoCutParts(t *testing.T) {
	x := New()
	for i := range api.MaxRules {
		x.Insert(api.Rule{ID: i})
	}
	if n := looked(x, api.Key{}); n != api.MaxRules {
		t.Errorf("%d rules in the leaves", n)
	}
}

// Deleted rules are in no leaf any more.
func TestNothingStaysBehind(t *testing.T) {
	x := New()
	for range 2 {
		for i := range 50 {
			r := api.Rule{ID: i}
			r.Match[i%5] = api.Match{Kind: api.Range, V: i, M: i + 5}
			x.Insert(r)
		}
		for i := range 50 {
			x.Delete(i)
		}
		for i := range 56 {
			if n := looked(x, api.Key{i, i, i, i, i}); n != 0 {
				t.Errorf("%d rules in the leaves at %d", n, i)
			}
		}
	}
}
