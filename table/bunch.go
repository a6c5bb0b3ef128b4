package table

import (
	"portico/api"
	"portico/span"
	"portico/tree"
)

const (
	// fewEntries are sooner looked at one by one than cut.
	fewEntries = 4
	// deepest is how often a bunch is cut on any way down, and mostDoubled the part of it (one in so many)
	// that may lie on both sides of a cut: together they bound a tree's size, whatever the rules are.
	deepest     = 12
	mostDoubled = 4
)

// bunch is a leaf of a tree: the entries that may match there, the first ones ahead.
type bunch []*entry

// split cuts a bunch in two, if that is worth it.
func (b bunch) split() (cut tree.Cut[int], low, high bunch, ok bool) {
	if len(b) <= fewEntries {
		return cut, nil, nil, false
	}
	if cut, ok = b.bestCut(); !ok {
		return cut, nil, nil, false
	}
	low, high = b.sides(cut)
	return cut, low, high, true
}

// bestCut tells the cut that leaves the fewest entries on the fuller side; false, if none is worth it.
func (b bunch) bestCut() (best tree.Cut[int], ok bool) {
	most := len(b)
	for i := range fieldCount {
		p := span.Part(b.hulls(i))
		doubled := p.Low + p.High - len(b)
		if p.Most() < most && doubled*mostDoubled <= len(b) {
			best, ok, most = tree.Cut[int]{Field: i, Last: p.Last}, true, p.Most()
		}
	}
	return best, ok
}

// hulls tells the entries' spans in a field.
func (b bunch) hulls(field int) []span.Span[int] {
	l := make([]span.Span[int], 0, len(b))
	for _, e := range b {
		l = append(l, e.hull[field])
	}
	return l
}

// sides tells the entries on either side of a cut, in their order.
func (b bunch) sides(cut tree.Cut[int]) (low, high bunch) {
	for _, e := range b {
		isLow, isHigh := e.hull[cut.Field].Sides(cut.Last)
		if isLow {
			low = append(low, e)
		}
		if isHigh {
			high = append(high, e)
		}
	}
	return low, high
}

// first tells the first entry that matches a key, or best, if that is there and stands ahead of it.
func (b bunch) first(k api.Key, best *entry) *entry {
	for _, e := range b {
		if best != nil && best.rank().compare(e.rank()) < 0 {
			break
		}
		if e.matches(k) {
			return e
		}
	}
	return best
}
