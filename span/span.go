// Package span: ranges of whole numbers, and the fields that such numbers stand in.
package span

import (
	"math/bits"
	"slices"
)

// Number is a kind of number that a field's value may be told in.
type Number interface {
	~int | ~int64 | ~uint16 | ~uint32 | ~uint64
}

// Span is the numbers from Low to High, both of them too.
type Span[N Number] struct {
	Low, High N
}

// Has tells whether x is one of them.
func (s Span[N]) Has(x N) bool { return s.Low <= x && x <= s.High }

// Sides tells whether some of them are last or below, and whether some are above it.
func (s Span[N]) Sides(last N) (low, high bool) { return s.Low <= last, s.High > last }

// Field is the numbers of so many bits.
type Field[N Number] struct {
	width int
	all   Span[N]
}

// FieldOf makes the field of a width in bits, which N must have room for.
func FieldOf[N Number](width int) Field[N] {
	return Field[N]{width: width, all: Span[N]{High: N(1)<<width - 1}}
}

// Has tells whether x is a number of so many bits.
func (f Field[N]) Has(x N) bool { return f.all.Has(x) }

// Hull is the span from the least to the greatest number whose bits of mask are those of value.
func (f Field[N]) Hull(value, mask N) Span[N] {
	return Span[N]{Low: value, High: value | f.all.High&^mask}
}

// Narrowing tells by how many bits a span is narrower than the field.
func (f Field[N]) Narrowing(s Span[N]) int {
	return f.width - bits.Len64(uint64(s.High-s.Low))
}

// Parting is a place to cut between numbers, and how many spans have numbers on either side of it.
type Parting[N Number] struct {
	Last      N
	Low, High int
}

// Most is how many spans the fuller side has.
func (p Parting[N]) Most() int { return max(p.Low, p.High) }

// Part tells where a cut leaves the fewest spans on the fuller side; without a gain, all of them lie on both.
// Only the spans' upper ends are asked: a cut that is moved down to the next of them
// leaves no more spans on either side.
func Part[N Number](spans []Span[N]) Parting[N] {
	lows, highs := ends(spans)
	best := Parting[N]{Low: len(spans), High: len(spans)}
	begun := 0
	for i, last := range highs {
		// Behind the hindmost of equal ends alone do all that follow lie above it.
		if i+1 < len(highs) && highs[i+1] == last {
			continue
		}
		for begun < len(lows) && lows[begun] <= last {
			begun++
		}
		here := Parting[N]{Last: last, Low: begun, High: len(highs) - i - 1}
		if here.Most() < best.Most() {
			best = here
		}
	}
	return best
}

// ends tells the spans' lower and upper ends, each list rising.
func ends[N Number](spans []Span[N]) (lows, highs []N) {
	lows, highs = make([]N, 0, len(spans)), make([]N, 0, len(spans))
	for _, s := range spans {
		lows = append(lows, s.Low)
		highs = append(highs, s.High)
	}
	slices.Sort(lows)
	slices.Sort(highs)
	return lows, highs
}
