package table_test

import (
	"cmp"
	"math/rand"
	"slices"
	"testing"

	"portico/api"
	"portico/table"
)

// widths of a key's fields, as DOC.md tells them.
var widths = [5]int{32, 32, 8, 16, 16}

func top(field int) int { return 1<<widths[field] - 1 }

func mask(v, m int) api.Match      { return api.Match{Kind: api.Mask, V: v, M: m} }
func span(low, high int) api.Match { return api.Match{Kind: api.Range, V: low, M: high} }

// with makes a rule that matches everything but in one field.
func with(id, priority, field int, m api.Match) api.Rule {
	r := api.Rule{ID: id, Priority: priority}
	r.Match[field] = m
	return r
}

// keyWith makes a key of zeros but in one field.
func keyWith(field, x int) api.Key {
	var k api.Key
	k[field] = x
	return k
}

// list is what a table should be: rules, in no order.
type list []api.Rule

func matches(m api.Match, x int) bool {
	if m.Kind == api.Range {
		return m.V <= x && x <= m.M
	}
	return x&m.M == m.V
}

func matchesAll(r api.Rule, k api.Key) bool {
	for i, m := range r.Match {
		if !matches(m, k[i]) {
			return false
		}
	}
	return true
}

// sorted tells the rules, the first ones ahead.
func (l list) sorted() []api.Rule {
	s := slices.Clone(l)
	slices.SortFunc(s, func(a, b api.Rule) int {
		return cmp.Or(cmp.Compare(b.Priority, a.Priority), cmp.Compare(a.ID, b.ID))
	})
	return s
}

// find looks at all rules, one by one.
func (l list) find(k api.Key) (int, api.Errno) {
	best := -1
	for i, r := range l {
		if matchesAll(r, k) && (best < 0 || ahead(r, l[best])) {
			best = i
		}
	}
	if best < 0 {
		return 0, api.ErrNone
	}
	return l[best].ID, api.OK
}

func ahead(a, b api.Rule) bool {
	return a.Priority > b.Priority || a.Priority == b.Priority && a.ID < b.ID
}

// tableOf makes a table of rules.
func tableOf(t *testing.T, rules ...api.Rule) *table.Table {
	t.Helper()
	x := table.New()
	for _, r := range rules {
		wantInsert(t, x, r, api.OK)
	}
	return x
}

func wantInsert(t *testing.T, x *table.Table, r api.Rule, want api.Errno) {
	t.Helper()
	if got := x.Insert(r); got != want {
		t.Errorf("Insert(%+v) = %d, want %d", r, got, want)
	}
}

func wantDelete(t *testing.T, x *table.Table, id int, want api.Errno) {
	t.Helper()
	if got := x.Delete(id); got != want {
		t.Errorf("Delete(%d) = %d, want %d", id, got, want)
	}
}

func wantFind(t *testing.T, x *table.Table, k api.Key, want int, wantErr api.Errno) {
	t.Helper()
	if got, err := x.Find(k); got != want || err != wantErr {
		t.Errorf("Find(%v) = %d, %d, want %d, %d", k, got, err, want, wantErr)
	}
}

func wantRules(t *testing.T, x *table.Table, l list) {
	t.Helper()
	if got := x.Rules(); !slices.Equal(got, l.sorted()) {
		t.Errorf("Rules() = %+v, want %+v", got, l.sorted())
	}
}

// wantSame holds a table against a list, at keys that lie at the ends of the list's matches and beside them.
func wantSame(t *testing.T, x *table.Table, l list, r *rand.Rand) {
	t.Helper()
	wantRules(t, x, l)
	for range 20 {
		wantSameAt(t, x, l, randomKey(r, l))
	}
}

// wantSameAt holds a table against a list at a key.
func wantSameAt(t *testing.T, x *table.Table, l list, k api.Key) {
	t.Helper()
	id, err := l.find(k)
	wantFind(t, x, k, id, err)
}

// randomKey makes a key near a rule of the list, if there is one.
func randomKey(r *rand.Rand, l list) api.Key {
	var k api.Key
	near := api.Rule{}
	if len(l) > 0 {
		near = l[r.Intn(len(l))]
	}
	for i := range k {
		k[i] = randomNear(r, near.Match[i], top(i))
	}
	return k
}

func randomNear(r *rand.Rand, m api.Match, top int) int {
	switch x := r.Intn(top + 1); {
	case r.Intn(12) == 0:
		return x
	case m.Kind == api.Mask && r.Intn(12) == 0:
		return (m.V | x&^m.M) ^ 1<<r.Intn(8)
	case m.Kind == api.Mask:
		return m.V | x&^m.M
	}
	end := []int{m.V, m.M, (m.V + m.M) / 2}[r.Intn(3)]
	return min(max(end+[]int{0, 0, 0, 1, -1}[r.Intn(5)], 0), top)
}

// randomMatch makes a match of any form: prefixes, bits that stand apart, one value, ranges, ranges at an end.
func randomMatch(r *rand.Rand, field int) api.Match {
	top := top(field)
	x, y := r.Intn(top+1), r.Intn(top+1)
	switch r.Intn(10) {
	case 0:
		return mask(x&y, y)
	case 1, 2:
		m := top &^ (1<<r.Intn(widths[field]+1) - 1)
		return mask(x&m, m)
	case 3:
		return mask(x, top)
	case 4:
		return span(min(x, y), max(x, y))
	case 5:
		return span(0, x)
	case 6:
		return span(x, top)
	}
	return mask(0, 0)
}

func randomRule(r *rand.Rand, id, priorities int) api.Rule {
	rule := api.Rule{ID: id, Priority: r.Intn(priorities), Action: r.Intn(3)}
	if rule.Action == api.Send {
		rule.Port = r.Intn(api.MaxPorts)
	}
	for i := range rule.Match {
		rule.Match[i] = randomMatch(r, i)
	}
	return rule
}
