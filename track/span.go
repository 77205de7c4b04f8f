package track

import "quitrent/cents"

// span is what is allotted from a day on: a base, and a rest by what is done behind its origin.
// Both are 0 or more, and together an amount, so no part of the rest with the base leaves 64 bits.
type span struct {
	from, origin int
	base, rest   int64
}

// earned tells what is earned of a span, when so much is done of what was left to do at its origin.
func (s span) earned(n, left int64) int64 {
	if left == 0 {
		return s.allotted()
	}
	part, _ := cents.Part(s.rest, n, left)
	sum, _ := cents.Add(s.base, part)
	return sum
}

// allotted tells what is allotted by a span.
func (s span) allotted() int64 {
	sum, _ := cents.Add(s.base, s.rest)
	return sum
}
