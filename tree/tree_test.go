package tree

import "testing"

// halves cuts a text in its middle; its letters lie at 0, 1 and so on.
type halves struct {
	at   int
	text string
}

func (h halves) split() (Cut[int], halves, halves, bool) {
	mid := len(h.text) / 2
	if mid == 0 {
		return Cut[int]{}, halves{}, halves{}, false
	}
	cut := Cut[int]{Field: 1, Last: h.at + mid - 1}
	return cut, halves{h.at, h.text[:mid]}, halves{h.at + mid, h.text[mid:]}, true
}

func TestLeafOfEachPoint(t *testing.T) {
	const text = "portico"
	grown := Grow(halves{0, text}, 10, halves.split)
	for i, letter := range text {
		if leaf := grown.Leaf([]int{99, i}); leaf.text != string(letter) {
			t.Errorf("leaf at %d: %q", i, leaf.text)
		}
	}
	if leaf := grown.Leaf([]int{0, -5}); leaf.text != "p" {
		t.Errorf("leaf ahead of all: %q", leaf.text)
	}
	if leaf := grown.Leaf([]int{0, 50}); leaf.text != "o" {
		t.Errorf("leaf behind all: %q", leaf.text)
	}
}

func TestNoDeeperThanAsked(t *testing.T) {
	for depth, want := range []string{"abcdefgh", "abcd", "ab", "a", "a"} {
		if leaf := Grow(halves{0, "abcdefgh"}, depth, halves.split).Leaf([]int{0, 0}); leaf.text != want {
			t.Errorf("depth %d: leaf %q", depth, leaf.text)
		}
	}
}

func TestOtherKindsOfNumbersAndLeaves(t *testing.T) {
	once := func(leaf int) (Cut[uint32], int, int, bool) { return Cut[uint32]{Last: 7}, 1, 2, leaf == 0 }
	grown := Grow(0, 3, once)
	if low, high := grown.Leaf([]uint32{7}), grown.Leaf([]uint32{8}); low != 1 || high != 2 {
		t.Errorf("leaves %d and %d", low, high)
	}
}
