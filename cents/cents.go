// Package cents is layer 1: see shared/doc/01-cents.md.
package cents

import (
	"math/bits"

	"quitrent/api"
)

// Add tells a sum.
func Add(a, b int64) (int64, api.Errno) {
	return widen(a).plus(widen(b)).narrow()
}

// Less tells a difference.
func Less(a, b int64) (int64, api.Errno) {
	return widen(a).less(widen(b)).narrow()
}

// Sum tells the sum of all.
func Sum(l []int64) (int64, api.Errno) {
	var sum wide
	for _, n := range l {
		sum = sum.plus(widen(n))
	}
	return sum.narrow()
}

// Part tells the part of an amount.
func Part(a, part, whole int64) (int64, api.Errno) {
	if whole < 1 || part < 0 {
		return 0, api.ErrArg
	}
	return times(a, part, whole).units.narrow()
}

// Rest tells what a part leaves.
func Rest(a, part, whole int64) (int64, api.Errno) {
	if whole < 1 || part < 0 {
		return 0, api.ErrArg
	}
	return int64(times(a, part, whole).rest), api.OK
}

// Clamp tells a number within bounds.
func Clamp(n, low, high int64) int64 {
	// Not min and max: where low is above high, the order of these two questions decides.
	if n < low {
		return low
	}
	if n > high {
		return high
	}
	return n
}

// share is a number by a whole: units times the whole, and a rest from 0 on, below it.
type share struct {
	units wide
	rest  uint64
}

// plus tells the share of two shares of that whole together.
func (s share) plus(t share, whole uint64) share {
	// Both rests are below 2^63, so their sum doesn't wrap.
	sum := share{s.units.plus(t.units), s.rest + t.rest}
	if sum.rest >= whole {
		sum.rest -= whole
		sum.units = sum.units.plus(widen(1))
	}
	return sum
}

// once tells an amount as a share.
func once(a, whole int64) share {
	units, rest := a/whole, a%whole
	if rest < 0 { // Go rounds toward 0, a share downward
		units, rest = units-1, rest+whole
	}
	return share{widen(units), uint64(rest)}
}

// times tells an amount, part times, as a share. It is exact at all amounts: no more than 2^126 units of either sign.
func times(a, part, whole int64) share {
	one := once(a, whole)
	var sum share
	left := bits.Len64(uint64(part))
next:
	if left == 0 {
		goto out
	}
	left--
	sum = sum.plus(sum, uint64(whole))
	if part>>left&1 == 0 {
		goto next
	}
	sum = sum.plus(one, uint64(whole))
	goto next
out:
	return sum
}
