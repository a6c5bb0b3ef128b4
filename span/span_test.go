package span

import (
	"math/rand"
	"testing"
)

func TestSpanHasItsEnds(t *testing.T) {
	s := Span[int]{Low: 3, High: 5}
	for x, want := range map[int]bool{2: false, 3: true, 4: true, 5: true, 6: false} {
		if s.Has(x) != want {
			t.Errorf("Has(%d) = %t", x, !want)
		}
	}
}

func TestSides(t *testing.T) {
	s := Span[uint32]{Low: 3, High: 5}
	for last, want := range map[uint32][2]bool{2: {false, true}, 3: {true, true}, 4: {true, true}, 5: {true, false}} {
		if low, high := s.Sides(last); [2]bool{low, high} != want {
			t.Errorf("Sides(%d) = %t, %t", last, low, high)
		}
	}
}

func TestFieldAtTheEndsOfItsWidth(t *testing.T) {
	for _, width := range []int{1, 8, 16, 32} {
		f := FieldOf[int](width)
		if top := 1<<width - 1; f.Has(-1) || !f.Has(0) || !f.Has(top) || f.Has(top+1) {
			t.Errorf("field of %d bits: %t %t %t %t", width, f.Has(-1), f.Has(0), f.Has(top), f.Has(top+1))
		}
	}
	if !FieldOf[uint16](16).Has(65535) || !FieldOf[uint64](64).Has(1<<64-1) {
		t.Error("a field as wide as its kind of number lacks the greatest one")
	}
}

func TestHullIsTheLeastSpanOfAMask(t *testing.T) {
	f := FieldOf[int](6)
	for mask := range 64 {
		for value := range 64 {
			if value&^mask != 0 {
				continue
			}
			low, high := 64, -1
			for x := range 64 {
				if x&mask == value {
					low, high = min(low, x), max(high, x)
				}
			}
			if got := f.Hull(value, mask); got != (Span[int]{low, high}) {
				t.Errorf("Hull(%b, %b) = %v, want %d to %d", value, mask, got, low, high)
			}
		}
	}
}

func TestNarrowing(t *testing.T) {
	f := FieldOf[int](32)
	for s, want := range map[Span[int]]int{{0, 1<<32 - 1}: 0, {0, 1<<31 - 1}: 1, {0, 1 << 31}: 0, {7, 7}: 32, {8, 9}: 31} {
		if got := f.Narrowing(s); got != want {
			t.Errorf("Narrowing(%v) = %d, want %d", s, got, want)
		}
	}
}

// countSides tells how many spans have numbers on either side, one by one.
func countSides(spans []Span[int], last int) (low, high int) {
	for _, s := range spans {
		isLow, isHigh := s.Sides(last)
		if isLow {
			low++
		}
		if isHigh {
			high++
		}
	}
	return low, high
}

func TestPartFindsNoWorseThanAnyCut(t *testing.T) {
	r := rand.New(rand.NewSource(1))
	for range 2000 {
		spans := make([]Span[int], r.Intn(9))
		for i := range spans {
			a, b := r.Intn(12), r.Intn(12)
			spans[i] = Span[int]{min(a, b), max(a, b)}
		}
		got := Part(spans)
		least := len(spans)
		for last := -1; last <= 12; last++ {
			low, high := countSides(spans, last)
			least = min(least, max(low, high))
		}
		if got.Most() != least {
			t.Fatalf("Part(%v) = %v, where %d can be had", spans, got, least)
		}
		if low, high := countSides(spans, got.Last); least < len(spans) && (low != got.Low || high != got.High) {
			t.Fatalf("Part(%v) = %v, but there are %d and %d", spans, got, low, high)
		}
	}
}
