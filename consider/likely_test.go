package consider_test

import (
	"slices"
	"testing"

	"quitrent/api"
	"quitrent/consider"
)

// P12.1: amounts above 0, whose chance is about the bound, and amounts below 0, whose chance is about Whole less it.
func TestSureEnough(t *testing.T) {
	for _, bound := range []int{0, 1, 2, 3000, 4999, 5000, 5001, 7000, whole - 2, whole - 1, whole} {
		for _, step := range []int{-1, 0, 1} {
			for _, amount := range []int64{1, 2, 50, 1000} {
				above, below := bound+step, whole-bound+step
				if above >= 0 && above <= whole {
					want := 1000 + amount
					if step < 0 {
						want = 1000
					}
					mustLikely(t, want, api.OK, 1000, again(1, amount, above), bound)
				}
				if below >= 0 && below <= whole {
					want := 1000 - amount
					if step <= 0 {
						want = 1000
					}
					mustLikely(t, want, api.OK, 1000, again(1, -amount, below), bound)
				}
			}
		}
	}
}

// P12.1: an amount of 0 counts for nothing, by whatever chance and bound.
func TestNoAmount(t *testing.T) {
	for _, chance := range []int{0, 1, 4999, 5000, 5001, whole - 1, whole} {
		for _, bound := range []int{0, 1, 4999, 5000, 5001, whole - 1, whole} {
			for _, fixed := range []int64{0, 1, most} {
				mustLikely(t, fixed, api.OK, fixed, again(32, 0, chance), bound)
				mustMean(t, fixed, api.OK, fixed, again(32, 0, chance))
			}
		}
	}
}

// P12.1: a bound of 0 lets in all that is above 0 and nothing below it, as a bound of Whole does just with what is certain above 0, and with all below 0 that may come at all.
func TestLeastAndGreatestBound(t *testing.T) {
	for chance := range whole + 1 {
		plus, minus := again(1, 5, chance), again(1, -5, chance)
		mustLikely(t, 105, api.OK, 100, plus, 0)
		mustLikely(t, 100, api.OK, 100, minus, 0)
		up, down := int64(100), int64(95)
		if chance == whole {
			up = 105
		}
		if chance == 0 {
			down = 100
		}
		mustLikely(t, up, api.OK, 100, plus, whole)
		mustLikely(t, down, api.OK, 100, minus, whole)
	}
}

// sure tells amounts that count by each bound from 1 on.
func sure(amounts ...int64) []consider.Maybe {
	var l []consider.Maybe
	for _, n := range amounts {
		l = append(l, consider.Maybe{Amount: n, Chance: whole})
	}
	return l
}

// P12.1: sums at the ends of what a price may be, and of 64 bits; Mean has the same, as all is certain.
func TestSums(t *testing.T) {
	for _, c := range []struct {
		fixed     int64
		l         []int64
		want      int64
		wantErrno api.Errno
	}{
		{most, nil, most, api.OK}, {most - 1, []int64{1}, most, api.OK}, {0, []int64{most}, most, api.OK}, {1, []int64{most - 1}, most, api.OK},
		{most, []int64{1}, 0, api.ErrOver}, {1, []int64{most}, 0, api.ErrOver}, {most, []int64{most}, 0, api.ErrOver},
		{2, []int64{most, most}, 0, api.ErrOver}, // 2^64, which would wrap to 0
		{0, []int64{0}, 0, api.OK}, {5, []int64{-5}, 0, api.OK}, {5, []int64{-6}, 0, api.ErrArg}, {0, []int64{-1}, 0, api.ErrArg}, {most, []int64{-most}, 0, api.OK}, {most, []int64{least}, 0, api.ErrArg},
		{0, []int64{least}, 0, api.ErrArg}, {0, []int64{least, -1}, 0, api.ErrOver}, {1, []int64{least, -1}, 0, api.ErrArg}, {1, []int64{least, -2}, 0, api.ErrOver},
		{0, []int64{-most, -1}, 0, api.ErrArg}, {0, []int64{-most, -2}, 0, api.ErrOver}, {0, []int64{least, least}, 0, api.ErrOver}, {most, []int64{least, -most}, 0, api.ErrArg}, {most, []int64{least, least}, 0, api.ErrOver},
		{0, []int64{least, least, most, most, 2}, 0, api.OK}, {0, []int64{least, least, most, most, 1}, 0, api.ErrArg}, {3, []int64{least, least, most, most, 2}, 3, api.OK},
		{most, []int64{1, -1}, most, api.OK}, {most, []int64{most, -most}, most, api.OK}, {most, []int64{most, most, -most, -most}, most, api.OK}, {most, []int64{most, most, -most, -most, 1}, 0, api.ErrOver},
		{most, []int64{most, least}, most - 1, api.OK}, {most, []int64{most, least, least}, 0, api.ErrArg}, {most, []int64{most, least, least, 2}, 0, api.OK},
	} {
		l := sure(c.l...)
		for range 2 {
			for _, bound := range []int{1, 5000, whole} {
				mustLikely(t, c.want, c.wantErrno, c.fixed, l, bound)
			}
			mustMean(t, c.want, c.wantErrno, c.fixed, l)
			slices.Reverse(l)
		}
	}
}

// P12.1: the greatest amounts as often as there may be, alone and against each other.
func TestGreatestSums(t *testing.T) {
	mustBoth(t, api.ErrOver, 0, again(32, most, whole), 5000)
	mustBoth(t, api.ErrOver, most, again(32, most, whole), 5000)
	mustBoth(t, api.ErrOver, 0, again(32, least, whole), 5000)
	mustBoth(t, api.ErrOver, most, again(32, least, whole), 5000)
	there := append(again(16, most, whole), again(16, -most, whole)...)
	deep := append(again(16, least, whole), again(16, most, whole)...)
	for range 2 {
		mustLikely(t, 9, api.OK, 9, there, 5000)
		mustMean(t, 9, api.OK, 9, there)
		mustLikely(t, 0, api.OK, 16, deep, 5000)
		mustMean(t, 0, api.OK, 16, deep)
		mustBoth(t, api.ErrArg, 15, deep, 5000)
		slices.Reverse(there)
		slices.Reverse(deep)
	}
	// None of them counts.
	mustLikely(t, 9, api.OK, 9, again(32, most, 4999), 5000)
	mustLikely(t, 9, api.OK, 9, again(32, least, 5000), 5000)
}

// P12.1: what isn't sure enough doesn't count, whatever the sum with it would be.
func TestLeftOut(t *testing.T) {
	mustLikely(t, most, api.OK, most, row([2]int64{1, 4999}), 5000)
	mustLikely(t, 0, api.ErrOver, most, row([2]int64{1, 5000}), 5000)
	mustLikely(t, 0, api.OK, 0, row([2]int64{-1, 5000}), 5000)
	mustLikely(t, 0, api.ErrArg, 0, row([2]int64{-1, 5001}), 5000)
	mustLikely(t, 0, api.ErrArg, 0, row([2]int64{least, 5001}, [2]int64{-1, 5000}), 5000)
	mustLikely(t, 0, api.ErrOver, 0, row([2]int64{least, 5001}, [2]int64{-1, 5001}), 5000)
	mustLikely(t, 0, api.ErrOver, most, row([2]int64{1, 5000}, [2]int64{-1, 5000}), 5000)
	mustLikely(t, most, api.OK, most, row([2]int64{1, 5000}, [2]int64{-1, 5001}), 5000)
}
