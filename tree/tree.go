// Package tree: a tree of nodes that are cut in two, over any kind of leaves.
package tree

import "portico/span"

// Cut parts the points whose number in a field is Last or below from those above it.
type Cut[N span.Number] struct {
	Field int
	Last  N
}

// Split tells how a leaf is cut, and the leaves on either side; or false, if it is better left whole.
type Split[N span.Number, L any] func(leaf L) (cut Cut[N], low, high L, ok bool)

// Tree is a leaf, or a cut with a tree on either side.
type Tree[N span.Number, L any] struct {
	leaf      L
	cut       Cut[N]
	low, high *Tree[N, L]
}

// Grow makes a tree of a leaf, by cutting it and what comes of it, at most depth times on any way down.
func Grow[N span.Number, L any](leaf L, depth int, split Split[N, L]) *Tree[N, L] {
	if depth > 0 {
		if cut, low, high, ok := split(leaf); ok {
			return &Tree[N, L]{cut: cut, low: Grow(low, depth-1, split), high: Grow(high, depth-1, split)}
		}
	}
	return &Tree[N, L]{leaf: leaf}
}

// Leaf tells the leaf in which a point lies; a point has a number for each field that was cut.
func (t *Tree[N, L]) Leaf(point []N) L {
	for t.low != nil {
		if point[t.cut.Field] <= t.cut.Last {
			t = t.low
		} else {
			t = t.high
		}
	}
	return t.leaf
}
