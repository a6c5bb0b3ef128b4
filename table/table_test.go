package table_test

import (
	"math/rand"
	"slices"
	"testing"

	"portico/api"
	"portico/table"
)

// P3: example 1 of DOC.md.
func TestExampleOne(t *testing.T) {
	deny := with(2, 9, 4, span(80, 90))
	deny.Action = api.Deny
	x := tableOf(t, api.Rule{ID: 1, Priority: 5}, deny, with(3, 9, 2, mask(6, 255)))
	wantFind(t, x, api.Key{0, 0, 6, 0, 85}, 2, api.OK)
	wantFind(t, x, api.Key{0, 0, 17, 0, 85}, 2, api.OK)
	wantFind(t, x, api.Key{0, 0, 6, 0, 91}, 3, api.OK)
	wantFind(t, x, api.Key{0, 0, 17, 0, 91}, 1, api.OK)
}

// P3: a table without rules.
func TestNewHasNoRules(t *testing.T) {
	x := table.New()
	wantFind(t, x, api.Key{}, 0, api.ErrNone)
	wantRules(t, x, nil)
	wantDelete(t, x, 0, api.ErrNone)
}

// P3: the highest priority, then the least ID, in whichever order they came.
func TestFirstIsByPriorityThenID(t *testing.T) {
	l := list{{ID: 7, Priority: 2}, {ID: 3, Priority: 2}, {ID: 1, Priority: 0}, {ID: 9, Priority: 1000}, {ID: 8, Priority: 1000}}
	for range 2 {
		x := tableOf(t, l...)
		wantRules(t, x, l)
		for _, id := range []int{8, 9, 3, 7, 1} {
			wantFind(t, x, api.Key{1, 2, 3, 4, 5}, id, api.OK)
			wantDelete(t, x, id, api.OK)
		}
		wantFind(t, x, api.Key{1, 2, 3, 4, 5}, 0, api.ErrNone)
		slices.Reverse(l)
	}
}

// P3: the first is the first of those that are narrow in different fields, too.
func TestFirstAmongFields(t *testing.T) {
	for first := range widths {
		var l list
		for field := range widths {
			r := with(100+field, 1, field, span(0, 0))
			if field == first {
				r.ID = 7
			}
			l = append(l, r)
		}
		wantFind(t, tableOf(t, l...), api.Key{}, 7, api.OK)
		l[first].ID, l[first].Priority = 900, 2
		wantFind(t, tableOf(t, l...), api.Key{}, 900, api.OK)
	}
}

// P3: a mask matches where its bits are those of V; all bytes are asked of all masks that have bits apart.
func TestMasksWhoseBitsStandApart(t *testing.T) {
	for _, m := range []int{0, 0x01, 0x80, 0x81, 0x55, 0xaa, 0xa5, 0x42, 0x3c, 0xfe, 0x7f, 0xff} {
		for v := range 256 {
			if v&^m != 0 {
				continue
			}
			x := tableOf(t, with(1, 1, 2, mask(v, m)))
			for n := range 256 {
				if n&m == v {
					wantFind(t, x, keyWith(2, n), 1, api.OK)
				} else {
					wantFind(t, x, keyWith(2, n), 0, api.ErrNone)
				}
			}
		}
	}
}

// P3: many rules whose masks have bits apart, in each field, beside each other.
func TestManyMasksWhoseBitsStandApart(t *testing.T) {
	r := rand.New(rand.NewSource(4))
	for field := range widths {
		var l list
		for id := range 60 {
			m := r.Intn(top(field)+1) & r.Intn(top(field)+1)
			l = append(l, with(id, r.Intn(4), field, mask(r.Intn(top(field)+1)&m, m)))
		}
		x := tableOf(t, l...)
		for range 40 {
			wantSame(t, x, l, r)
		}
	}
}

// P3: ranges that begin or end at a field's end have that end, and end where they say.
func TestRangesAtAFieldsEnds(t *testing.T) {
	for field := range widths {
		top := top(field)
		x := tableOf(t, with(1, 1, field, span(0, 2)), with(2, 1, field, span(top-2, top)), with(3, 0, field, span(5, 5)), with(4, 0, field, span(top/2, top/2+1)))
		for n, want := range map[int]int{0: 1, 1: 1, 2: 1, 3: 0, 4: 0, 5: 3, 6: 0, top/2 - 1: 0, top / 2: 4, top/2 + 1: 4, top/2 + 2: 0, top - 3: 0, top - 2: 2, top - 1: 2, top: 2} {
			if want == 0 {
				wantFind(t, x, keyWith(field, n), 0, api.ErrNone)
			} else {
				wantFind(t, x, keyWith(field, n), want, api.OK)
			}
		}
		wantInsert(t, x, with(5, 0, field, span(0, top)), api.OK)
		for _, n := range []int{3, 4, 6, top/2 - 1, top/2 + 2, top - 3} {
			wantFind(t, x, keyWith(field, n), 5, api.OK)
		}
	}
}

// P3: a rule matches a key, if all five matches do.
func TestAllFiveMustMatch(t *testing.T) {
	r := api.Rule{ID: 1, Match: [5]api.Match{mask(0x0a000000, 0xff000000), span(5, 9), mask(6, 255), mask(1, 1), span(80, 80)}}
	x := tableOf(t, r)
	right := api.Key{0x0a010203, 7, 6, 3, 80}
	wantFind(t, x, right, 1, api.OK)
	for field, n := range []int{0x0b010203, 10, 7, 2, 81} {
		wrong := right
		wrong[field] = n
		wantFind(t, x, wrong, 0, api.ErrNone)
	}
}

// P3: a rule that hides all others goes, and comes again, and the others are found as they were.
func TestRulesThatHideOthers(t *testing.T) {
	r := rand.New(rand.NewSource(5))
	for _, hider := range []api.Rule{{ID: 500, Priority: 1000}, with(500, 1000, 0, span(0, 1<<31)), with(500, 1000, 4, mask(0, 1))} {
		var l list
		for id := range 100 {
			l = append(l, randomRule(r, id, 5))
		}
		x := tableOf(t, l...)
		for range 3 {
			wantInsert(t, x, hider, api.OK)
			wantFind(t, x, api.Key{}, hider.ID, api.OK)
			wantSame(t, x, append(slices.Clone(l), hider), r)
			wantDelete(t, x, hider.ID, api.OK)
			wantSame(t, x, l, r)
		}
	}
}

// P3: an ID that went may come again as another rule.
func TestIDsComeAgain(t *testing.T) {
	x := tableOf(t, with(1, 5, 4, span(80, 90)), api.Rule{ID: 2})
	for _, again := range []api.Rule{with(1, 0, 4, span(80, 90)), with(1, 3, 2, mask(6, 255)), {ID: 1, Priority: 9}, with(1, 5, 4, span(80, 90))} {
		wantDelete(t, x, 1, api.OK)
		wantDelete(t, x, 1, api.ErrNone)
		wantInsert(t, x, again, api.OK)
		wantRules(t, x, list{again, {ID: 2}})
		for _, k := range []api.Key{{}, {0, 0, 6, 0, 80}, {0, 0, 7, 0, 90}, {0, 0, 6, 0, 91}} {
			wantSameAt(t, x, list{again, {ID: 2}}, k)
		}
	}
}

// P3: tables that grow to MaxRules, shrink and grow again, against what the list of rules says.
func TestAgainstTheList(t *testing.T) {
	for seed := range int64(20) {
		r := rand.New(rand.NewSource(100 + seed))
		x, l := table.New(), list{}
		for step := range 450 {
			growing := step < 220 || step > 330
			if len(l) > 0 && (len(l) == api.MaxRules || r.Intn(10) == 0 || !growing && r.Intn(10) < 8) {
				at := r.Intn(len(l))
				wantDelete(t, x, l[at].ID, api.OK)
				l = slices.Delete(l, at, at+1)
			} else {
				rule := randomRule(r, step, 1+int(seed)*50)
				wantInsert(t, x, rule, api.OK)
				l = append(l, rule)
			}
			wantSame(t, x, l, r)
			if t.Failed() {
				t.Fatalf("seed %d, step %d", seed, step)
			}
		}
	}
}

// P3: rules that lie close together, one inside another, at every number of a field.
func TestNestedRangesAtEveryNumber(t *testing.T) {
	var l list
	for i := range 100 {
		l = append(l, with(i, i, 2, span(i, 255-i)), with(200+i, 1000-i, 2, span(2*i, 2*i)))
	}
	x := tableOf(t, l...)
	for n := range 256 {
		wantSameAt(t, x, l, keyWith(2, n))
	}
}

// P2: two tables side by side know nothing of each other.
func TestTwoTablesSideBySide(t *testing.T) {
	r := rand.New(rand.NewSource(6))
	a, b := table.New(), table.New()
	var la, lb list
	for id := range 80 {
		ra, rb := randomRule(r, id, 9), randomRule(r, id, 9)
		wantInsert(t, a, ra, api.OK)
		wantSameAt(t, b, lb, randomKey(r, list{ra}))
		wantInsert(t, b, rb, api.OK)
		la, lb = append(la, ra), append(lb, rb)
	}
	wantSame(t, a, la, r)
	wantSame(t, b, lb, r)
	for id := range 80 {
		wantDelete(t, a, id, api.OK)
	}
	wantSame(t, a, nil, r)
	wantSame(t, b, lb, r)
}

// P2: the same calls have the same answers, in whichever order the rules came.
func TestAnswersHangOnTheRulesAlone(t *testing.T) {
	r := rand.New(rand.NewSource(7))
	var l list
	for id := range 120 {
		l = append(l, randomRule(r, id, 6))
	}
	a := tableOf(t, l...)
	shuffled := slices.Clone(l)
	r.Shuffle(len(shuffled), func(i, j int) { shuffled[i], shuffled[j] = shuffled[j], shuffled[i] })
	b := tableOf(t, shuffled...)
	for range 500 {
		k := randomKey(r, l)
		id, err := a.Find(k)
		wantFind(t, b, k, id, err)
		wantFind(t, a, k, id, err)
	}
	wantRules(t, b, a.Rules())
}

// P2: what came out of Rules is its owner's, spare room too.
func TestRulesIsNewMemory(t *testing.T) {
	r := rand.New(rand.NewSource(8))
	x, l := fullTable(t)
	for len(l) > 0 {
		out, other := x.Rules(), x.Rules()
		spare := append(out[:len(out):cap(out)], api.Rule{ID: 77})
		spoil(out[:cap(out)])
		spoil(spare[:cap(spare)])
		if !slices.Equal(other, l.sorted()) {
			t.Fatal("one list of Rules changed another")
		}
		wantSame(t, x, l, r)
		spoil(other)
		last := l[len(l)-1]
		l = l[:len(l)-1]
		wantDelete(t, x, last.ID, api.OK)
	}
}

// spoil makes all rules of a list others.
func spoil(l []api.Rule) {
	for i := range l {
		l[i] = api.Rule{ID: 1 << 20, Priority: 1000, Action: api.Deny}
	}
}

// P2: a list that came out stays as it was, whatever is called behind it.
func TestRulesThatCameOutStay(t *testing.T) {
	l := list{{ID: 2, Priority: 1}, {ID: 1}, {ID: 3}}
	x := tableOf(t, l...)
	out := x.Rules()
	wantDelete(t, x, 2, api.OK)
	wantInsert(t, x, api.Rule{ID: 9, Priority: 9}, api.OK)
	if !slices.Equal(out, l.sorted()) {
		t.Errorf("the list became %+v", out)
	}
}
