// Package table: rules, the foremost of which decides: see DOC.md, P3.
package table

import (
	"cmp"

	"portico/api"
	"portico/ordered"
	"portico/tree"
)

// Table has rules.
type Table struct {
	byID   *ordered.Map[int, *entry]
	byRank *ordered.Map[rank, *entry]
	trees  [fieldCount + 1]*tree.Tree[int, bunch]
}

// New makes a table without rules.
func New() *Table {
	t := &Table{
		byID:   ordered.New[int, *entry](cmp.Compare[int]),
		byRank: ordered.New[rank, *entry](rank.compare),
	}
	for home := range t.trees {
		t.regrow(home)
	}
	return t
}

// Insert adds a rule.
func (t *Table) Insert(r api.Rule) api.Errno {
	if !isRule(r) {
		return api.ErrRule
	}
	if _, there := t.byID.Get(r.ID); there {
		return api.ErrTwice
	}
	if t.byID.Len() >= api.MaxRules {
		return api.ErrFull
	}
	e := entryOf(r)
	t.byID.Put(r.ID, e)
	t.byRank.Put(e.rank(), e)
	t.regrow(e.home())
	return api.OK
}

// Delete takes a rule away.
func (t *Table) Delete(id int) api.Errno {
	e, there := t.byID.Get(id)
	if !there {
		return api.ErrNone
	}
	t.byID.Delete(id)
	t.byRank.Delete(e.rank())
	t.regrow(e.home())
	return api.OK
}

// Find tells the first rule that matches a key.
func (t *Table) Find(k api.Key) (int, api.Errno) {
	if !isKey(k) {
		return 0, api.ErrRule
	}
	var first *entry
	for _, grown := range t.trees {
		first = grown.Leaf(k[:]).first(k, first)
	}
	if first == nil {
		return 0, api.ErrNone
	}
	return first.rule.ID, api.OK
}

// Rules tells all rules, the first ones ahead.
func (t *Table) Rules() []api.Rule {
	l := make([]api.Rule, 0, t.byRank.Len())
	for _, e := range t.byRank.All() {
		l = append(l, e.rule)
	}
	return l
}

// regrow makes one of the trees anew, of the entries that belong to it: a tree that only took
// in and gave away would still be cut where rules once stood.
func (t *Table) regrow(home int) {
	var b bunch
	for _, e := range t.byRank.All() {
		if e.home() == home {
			b = append(b, e)
		}
	}
	t.trees[home] = tree.Grow(b, deepest, bunch.split)
}
