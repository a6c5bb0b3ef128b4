package table

import (
	"cmp"

	"portico/api"
	"portico/span"
)

// fieldCount is how many fields a key has.
const fieldCount = 5

// fields has for each field of a key the numbers that it may be.
var fields = fieldsOf([fieldCount]int{32, 32, 8, 16, 16})

// fieldsOf makes the fields of so many bits.
func fieldsOf(widths [fieldCount]int) [fieldCount]span.Field[int] {
	var l [fieldCount]span.Field[int]
	for i, width := range widths {
		l[i] = span.FieldOf[int](width)
	}
	return l
}

// isKey tells whether each field of k is a number of its bits.
func isKey(k api.Key) bool {
	for i, x := range k {
		if !fields[i].Has(x) {
			return false
		}
	}
	return true
}

// isRule tells whether r is a rule.
func isRule(r api.Rule) bool {
	if r.ID < 0 || r.Priority < 0 || r.Priority > api.MaxPriority {
		return false
	}
	for i, m := range r.Match {
		if !isMatch(m, fields[i]) {
			return false
		}
	}
	return isAction(r.Action, r.Port)
}

// isMatch tells whether m is a match of a field.
func isMatch(m api.Match, f span.Field[int]) bool {
	if !f.Has(m.V) || !f.Has(m.M) {
		return false
	}
	switch m.Kind {
	case api.Mask:
		return m.V&^m.M == 0
	case api.Range:
		return m.V <= m.M
	}
	return false
}

// isAction tells whether there is such an action, and may have this port.
func isAction(action, port int) bool {
	switch action {
	case api.Permit, api.Deny:
		return port == 0
	case api.Send:
		return 0 <= port && port < api.MaxPorts
	}
	return false
}

// rank is what a rule's place among the others hangs on.
type rank struct {
	priority, id int
}

// compare tells below 0, if a rule of rank a stands ahead of one of rank b.
func (a rank) compare(b rank) int {
	if a.priority != b.priority {
		return cmp.Compare(b.priority, a.priority)
	}
	return cmp.Compare(a.id, b.id)
}

// entry is a rule as a table has it, with a span for each field outside of which it matches nothing.
type entry struct {
	rule api.Rule
	hull [fieldCount]span.Span[int]
}

// entryOf makes an entry of a rule.
func entryOf(r api.Rule) *entry {
	e := &entry{rule: r}
	for i, m := range r.Match {
		e.hull[i] = hullOf(m, fields[i])
	}
	return e
}

// hullOf tells the least span that has all that m matches.
func hullOf(m api.Match, f span.Field[int]) span.Span[int] {
	if m.Kind == api.Range {
		return span.Span[int]{Low: m.V, High: m.M}
	}
	return f.Hull(m.V, m.M)
}

// rank tells the entry's place among the others.
func (e *entry) rank() rank { return rank{priority: e.rule.Priority, id: e.rule.ID} }

// matches tells whether the rule matches a key.
func (e *entry) matches(k api.Key) bool {
	for i, x := range k {
		if !e.matchesField(i, x) {
			return false
		}
	}
	return true
}

// matchesField tells whether the rule's match of field i matches x.
func (e *entry) matchesField(i, x int) bool {
	if m := e.rule.Match[i]; m.Kind == api.Mask {
		return x&m.M == m.V
	}
	return e.hull[i].Has(x)
}

// home tells the tree that the entry belongs to: that of the field in which it is narrowest,
// or the one behind those of the fields, if it is narrow in none.
// Cuts then part most entries of a tree, and few lie on both sides.
func (e *entry) home() int {
	home, most := fieldCount, 0
	for i, f := range fields {
		if n := f.Narrowing(e.hull[i]); n > most {
			home, most = i, n
		}
	}
	return home
}
