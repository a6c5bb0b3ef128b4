package table_test

import (
	"math"
	"testing"

	"portico/api"
	"portico/table"
)

// outside tells numbers that a field of so many bits has not.
func outside(field int) []int {
	return []int{-1, top(field) + 1, top(field) + 2, 1 << 40, 1 << 62, -1 << 32, math.MaxInt, math.MinInt, math.MinInt + 1}
}

// P3: each field's matches, of both kinds, at the ends of its width and beyond them.
func TestInsertOfMatchesBeyondTheirWidth(t *testing.T) {
	for field := range widths {
		x := table.New()
		for _, n := range outside(field) {
			for _, m := range []api.Match{
				mask(n, n), mask(0, n), mask(n, 0), mask(n, top(field)), mask(top(field), n),
				span(n, n), span(0, n), span(n, top(field)), span(n, math.MaxInt), span(math.MinInt, n),
			} {
				wantInsert(t, x, with(1, 1, field, m), api.ErrRule)
			}
		}
		wantRules(t, x, nil)
	}
}

// P3: what lies at the ends of a field's width is a match.
func TestInsertOfMatchesAtTheEndsOfTheirWidth(t *testing.T) {
	for field := range widths {
		top := top(field)
		for _, m := range []api.Match{
			mask(0, 0), mask(0, top), mask(top, top), mask(1, 1), mask(top-1, top-1),
			span(0, 0), span(0, top), span(top, top), span(top-1, top), span(0, 1),
		} {
			r := with(1, 1, field, m)
			wantRules(t, tableOf(t, r), list{r})
		}
	}
}

// P3: bits of V that M has not, a range turned round, a kind that may not be; in each field.
func TestInsertOfWhatIsNoMatch(t *testing.T) {
	for field := range widths {
		x, top := table.New(), top(field)
		for _, m := range []api.Match{
			mask(1, 0), mask(top, 0), mask(top, top-1), mask(2, 1), mask(1, top-1), mask(top, top>>1), mask((top+1)/2, top>>1),
			span(1, 0), span(top, 0), span(top, top-1), span(2, 1),
			{Kind: 2}, {Kind: -1}, {Kind: math.MaxInt}, {Kind: math.MinInt}, {Kind: 2, V: 1, M: 1},
		} {
			wantInsert(t, x, with(1, 1, field, m), api.ErrRule)
		}
		wantRules(t, x, nil)
	}
}

// P3: IDs, priorities, actions and ports that may not be.
func TestInsertOfWhatIsNoRule(t *testing.T) {
	x := table.New()
	for _, r := range []api.Rule{
		{ID: -1}, {ID: math.MinInt},
		{Priority: -1}, {Priority: api.MaxPriority + 1}, {Priority: math.MaxInt}, {Priority: math.MinInt},
		{Action: -1}, {Action: 3}, {Action: math.MaxInt}, {Action: math.MinInt}, {Action: 3, Port: 1},
		{Action: api.Permit, Port: 1}, {Action: api.Permit, Port: -1}, {Action: api.Permit, Port: math.MinInt},
		{Action: api.Deny, Port: 1}, {Action: api.Deny, Port: -1}, {Action: api.Deny, Port: math.MaxInt},
		{Action: api.Send, Port: -1}, {Action: api.Send, Port: api.MaxPorts},
		{Action: api.Send, Port: math.MaxInt}, {Action: api.Send, Port: math.MinInt},
	} {
		wantInsert(t, x, r, api.ErrRule)
	}
	wantRules(t, x, nil)
	wantFind(t, x, api.Key{}, 0, api.ErrNone)
}

// P3: the greatest and the least that an ID, a priority, an action's port may be.
func TestInsertOfRulesAtTheirLimits(t *testing.T) {
	l := list{
		{ID: 0}, {ID: math.MaxInt}, {ID: math.MaxInt - 1, Priority: api.MaxPriority}, {ID: 5, Action: api.Deny},
		{ID: 6, Action: api.Send}, {ID: 7, Action: api.Send, Port: api.MaxPorts - 1},
	}
	x := tableOf(t, l...)
	wantRules(t, x, l)
	wantFind(t, x, api.Key{}, math.MaxInt-1, api.OK)
	wantDelete(t, x, math.MaxInt-1, api.OK)
	wantFind(t, x, api.Key{}, 0, api.OK)
	wantDelete(t, x, 0, api.OK)
	wantFind(t, x, api.Key{}, 5, api.OK)
}

// P3: keys at the ends of each field's width and beyond them, with and without rules.
func TestFindOfWhatIsNoKey(t *testing.T) {
	empty, full := table.New(), tableOf(t, api.Rule{ID: 4})
	for field := range widths {
		for _, n := range outside(field) {
			wantFind(t, empty, keyWith(field, n), 0, api.ErrRule)
			wantFind(t, full, keyWith(field, n), 0, api.ErrRule)
		}
		for _, n := range []int{0, 1, top(field) - 1, top(field)} {
			wantFind(t, empty, keyWith(field, n), 0, api.ErrNone)
			wantFind(t, full, keyWith(field, n), 4, api.OK)
		}
	}
	worst := api.Key{math.MinInt, math.MaxInt, math.MinInt, math.MaxInt, math.MinInt}
	wantFind(t, full, worst, 0, api.ErrRule)
}

// P3: Delete of IDs that are not there.
func TestDeleteOfNone(t *testing.T) {
	x := table.New()
	l := list{{ID: 3}, {ID: 5, Priority: 3}}
	for _, id := range []int{0, 3, -1, math.MaxInt, math.MinInt} {
		wantDelete(t, x, id, api.ErrNone)
	}
	x = tableOf(t, l...)
	for _, id := range []int{0, 4, -3, math.MaxInt, math.MinInt} {
		wantDelete(t, x, id, api.ErrNone)
	}
	wantRules(t, x, l)
}

// fullTable makes a table of MaxRules rules that match different protocols and ports.
func fullTable(t *testing.T) (*table.Table, list) {
	t.Helper()
	var l list
	for i := range api.MaxRules {
		l = append(l, with(10+i, i%7, 2+i%3, span(i, i)))
	}
	return tableOf(t, l...), l
}

// P3: MaxRules rules and one more; behind a Delete there is room for one again.
func TestMaxRulesAndOneMore(t *testing.T) {
	x, l := fullTable(t)
	wantRules(t, x, l)
	wantInsert(t, x, api.Rule{ID: 1}, api.ErrFull)
	wantRules(t, x, l)
	wantFind(t, x, api.Key{0, 0, 255, 65535, 65535}, 0, api.ErrNone)
	wantDelete(t, x, l[0].ID, api.OK)
	wantInsert(t, x, api.Rule{ID: 1}, api.OK)
	wantInsert(t, x, api.Rule{ID: 2}, api.ErrFull)
	wantInsert(t, x, l[0], api.ErrFull)
	wantRules(t, x, append(l[1:], api.Rule{ID: 1}))
	wantFind(t, x, api.Key{0, 0, 255, 65535, 65535}, 1, api.OK)
}

// P1: ErrRule ahead of ErrTwice ahead of ErrFull, and none of them changes anything.
func TestWhichErrorComesFirst(t *testing.T) {
	x, l := fullTable(t)
	there := l[0].ID
	wantInsert(t, x, api.Rule{ID: there, Priority: -1}, api.ErrRule)
	wantInsert(t, x, api.Rule{ID: there, Port: 1}, api.ErrRule)
	wantInsert(t, x, with(there, 0, 4, mask(1, 0)), api.ErrRule)
	wantInsert(t, x, api.Rule{ID: 1, Priority: -1}, api.ErrRule)
	wantInsert(t, x, l[0], api.ErrTwice)
	wantInsert(t, x, api.Rule{ID: there, Priority: api.MaxPriority}, api.ErrTwice)
	wantInsert(t, x, api.Rule{ID: 1, Priority: api.MaxPriority}, api.ErrFull)
	wantRules(t, x, l)
	few := tableOf(t, api.Rule{ID: 1})
	wantInsert(t, few, api.Rule{ID: 1, Action: 9}, api.ErrRule)
	wantInsert(t, few, api.Rule{ID: 1, Priority: 8}, api.ErrTwice)
	wantRules(t, few, list{{ID: 1}})
}

// P1: beside an error nothing is changed: what is found, what is told, what may be inserted.
func TestErrorsChangeNothing(t *testing.T) {
	l := list{with(1, 5, 4, span(80, 90)), with(2, 3, 2, mask(6, 255)), with(9, 0, 0, mask(0, 0))}
	x := tableOf(t, l...)
	for _, bad := range []api.Rule{{ID: 1, Priority: 1000}, {ID: -1, Priority: 1000}, {ID: 7, Priority: 1001}, {ID: 7, Priority: 9, Port: 2}, with(7, 9, 3, span(1, 0))} {
		if x.Insert(bad) == api.OK {
			t.Errorf("Insert(%+v) is OK", bad)
		}
		wantDelete(t, x, 7, api.ErrNone)
		wantFind(t, x, api.Key{0, 0, 256}, 0, api.ErrRule)
		wantRules(t, x, l)
		wantFind(t, x, api.Key{0, 0, 6, 0, 80}, 1, api.OK)
		wantFind(t, x, api.Key{0, 0, 6, 0, 91}, 2, api.OK)
		wantFind(t, x, api.Key{0, 0, 7, 0, 91}, 9, api.OK)
	}
	wantInsert(t, x, api.Rule{ID: 7}, api.OK)
}

// P1: no panic and an answer at all numbers, wherever they stand.
func TestNoPanicAtAnyNumber(t *testing.T) {
	x := table.New()
	l := list{}
	numbers := []int{math.MinInt, math.MinInt + 1, -1 << 33, -1 << 32, -1, 0, 1, 2, 7, 8, 255, 256, 1000, 1001, 65535, 65536, 1<<32 - 1, 1 << 32, 1 << 62, math.MaxInt - 1, math.MaxInt}
	for _, n := range numbers {
		for _, m := range numbers {
			for _, kind := range numbers {
				r := api.Rule{ID: n, Priority: m, Action: kind, Port: m}
				for i := range r.Match {
					r.Match[i] = api.Match{Kind: kind, V: n, M: m}
				}
				if x.Insert(r) == api.OK {
					l = append(l, r)
				}
				wantSameOrNoKey(t, x, l, api.Key{n, m, kind, n, m})
				x.Delete(n)
				l = list{}
			}
		}
	}
	wantRules(t, x, nil)
}

// wantSameOrNoKey holds a table against its list at a key that may be none.
func wantSameOrNoKey(t *testing.T, x *table.Table, l list, k api.Key) {
	t.Helper()
	for i, n := range k {
		if n < 0 || n > top(i) {
			wantFind(t, x, k, 0, api.ErrRule)
			return
		}
	}
	wantSameAt(t, x, l, k)
}
