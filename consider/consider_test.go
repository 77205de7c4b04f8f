package consider_test

import (
	"math"
	"slices"
	"testing"

	"quitrent/api"
	"quitrent/consider"
)

// The chapter's example.
func TestExample(t *testing.T) {
	l := row([2]int64{50, 6000}, [2]int64{-20, 3000})
	mustLikely(t, 150, api.OK, 100, l, 5000)
	mustMean(t, 124, api.OK, 100, l)
}

// P12.1, P12.2: ordinary.
func TestOrdinary(t *testing.T) {
	l := row([2]int64{1000, 8000}, [2]int64{500, 2000}, [2]int64{-300, 9000}, [2]int64{-70, 1000})
	mustLikely(t, 10000+1000+500, api.OK, 10000, l, 1000)
	mustLikely(t, 10000+1000+500-300, api.OK, 10000, l, 2000)
	mustLikely(t, 10000+1000-300, api.OK, 10000, l, 5000)
	mustLikely(t, 10000-300, api.OK, 10000, l, 8001)
	mustLikely(t, 10000-300-70, api.OK, 10000, l, 9500)
	mustMean(t, 10000+800+100-270-7, api.OK, 10000, l)
}

// P12.1, P12.2, R6: nothing that may come: the price is what is fixed, at both ends of what it may be.
func TestNothingMayCome(t *testing.T) {
	for _, l := range [][]consider.Maybe{nil, {}} {
		for _, fixed := range []int64{0, 1, 100, most - 1, most} {
			for _, bound := range []int{0, 1, 5000, whole - 1, whole} {
				mustLikely(t, fixed, api.OK, fixed, l, bound)
			}
			mustMean(t, fixed, api.OK, fixed, l)
		}
		for _, fixed := range []int64{-1, -2, least + 1, least} {
			mustBoth(t, api.ErrArg, fixed, l, 5000)
		}
	}
}

// P12.1, P12.2: what is fixed, from -1 on, beside what may come.
func TestFixed(t *testing.T) {
	l := row([2]int64{50, 6000}, [2]int64{-20, 9000})
	mustBoth(t, api.ErrArg, -1, l, 5000)
	mustBoth(t, api.ErrArg, least, l, 5000)
	// Even where all together would be above 0.
	mustBoth(t, api.ErrArg, -1, row([2]int64{50, whole}), 5000)
	mustLikely(t, 30, api.OK, 0, l, 5000)
	mustMean(t, 12, api.OK, 0, l)
	mustLikely(t, 31, api.OK, 1, l, 5000)
	mustMean(t, 13, api.OK, 1, l)
	mustBoth(t, api.ErrOver, most, l, 5000)
	l = row([2]int64{50, 6000}, [2]int64{-50, 9000})
	mustLikely(t, most, api.OK, most, l, 5000)
	mustMean(t, most-15, api.OK, most, l)
}

// P12.1, P12.2: each number of what may come, up to 32, and more; also where one of too many may not be, or nothing else is as it may be.
func TestHowMany(t *testing.T) {
	for many := range 33 {
		mustLikely(t, 100+7*int64(many), api.OK, 100, again(many, 7, 5000), 5000)
		mustMean(t, 100+7*int64(many)/2, api.OK, 100, again(many, 7, 5000))
	}
	for _, many := range []int{33, 34, 64, 65, 100, 5000} {
		mustBoth(t, api.ErrFull, 100, again(many, 7, 5000), 5000)
		mustBoth(t, api.ErrFull, 100, again(many, 0, 0), 5000)
		mustBoth(t, api.ErrFull, 100, again(many, most, whole), 5000)
		mustBoth(t, api.ErrFull, 100, again(many, least, whole), 5000)
		mustBoth(t, api.ErrFull, -1, again(many, 7, 5000), -1)
		mustBoth(t, api.ErrFull, -1, again(many, 7, -1), whole+1)
		for _, place := range []int{0, 1, many / 2, 31, 32, many - 1} {
			l := again(many, 7, 5000)
			l[place].Chance = whole + 1
			mustBoth(t, api.ErrFull, 100, l, 5000)
			l[place].Chance = -1
			mustBoth(t, api.ErrFull, 100, l, 5000)
		}
	}
}

// wrongPoints are numbers that are none of basis points.
func wrongPoints() []int {
	return []int{-1, -2, whole + 1, whole + 2, -whole, 2 * whole, math.MinInt32, math.MaxInt32, math.MinInt, math.MinInt + whole, math.MaxInt - whole, math.MaxInt, 1 << 32, 1<<32 + 5000}
}

// P12.1: bounds, from -1 to one more than Whole.
func TestBounds(t *testing.T) {
	l := row([2]int64{50, 6000}, [2]int64{-20, 3000}, [2]int64{7, 0}, [2]int64{-3, whole})
	for _, bound := range wrongPoints() {
		mustLikely(t, 0, api.ErrArg, 100, l, bound)
		mustLikely(t, 0, api.ErrArg, 100, nil, bound)
	}
	mustLikely(t, 157, api.OK, 100, l, 0)
	mustLikely(t, 147, api.OK, 100, l, 1)
	mustLikely(t, 147, api.OK, 100, l, 6000)
	mustLikely(t, 97, api.OK, 100, l, 6001)
	mustLikely(t, 97, api.OK, 100, l, 7000)
	mustLikely(t, 77, api.OK, 100, l, 7001)
	mustLikely(t, 77, api.OK, 100, l, whole-1)
	mustLikely(t, 77, api.OK, 100, l, whole)
}

// P12.1, P12.2: chances, from -1 to one more than Whole, at each place of a list.
func TestChances(t *testing.T) {
	for _, many := range []int{1, 2, 3, 32} {
		for place := range many {
			for _, amount := range []int64{50, -50, 0, most, least} {
				for _, chance := range wrongPoints() {
					l := again(many, 7, 5000)
					l[place] = consider.Maybe{Amount: amount, Chance: chance}
					for _, bound := range []int{0, 1, 5000, whole} {
						mustLikely(t, 0, api.ErrArg, 100, l, bound)
					}
					mustMean(t, 0, api.ErrArg, 100, l)
				}
			}
			for _, chance := range []int{0, 1, 2, 5000, whole - 1, whole} {
				l := again(many, 7, 5000)
				l[place] = consider.Maybe{Amount: whole, Chance: chance}
				rest := int64(7 * (many - 1))
				want := 100 + rest
				if chance >= 5000 {
					want += whole
				}
				mustLikely(t, want, api.OK, 100, l, 5000)
				mustMean(t, 100+rest/2+int64(chance), api.OK, 100, l)
			}
		}
	}
}

// P12.1, P12.2, R2: which error comes first, where more than one would fit.
func TestErrorsInOrder(t *testing.T) {
	over, under, deep := again(2, most, whole), again(1, -101, whole), again(2, least, whole)
	full := func(l []consider.Maybe) []consider.Maybe { return append(again(31, 1, whole), l...) }
	for _, l := range [][]consider.Maybe{full(over), full(deep)} {
		mustBoth(t, api.ErrFull, 100, l, 5000)
		mustBoth(t, api.ErrFull, -1, l, 5000)
		mustLikely(t, 0, api.ErrFull, 100, l, -1)
		mustLikely(t, 0, api.ErrFull, 100, l, whole+1)
		mustBoth(t, api.ErrFull, 100, append(l, row([2]int64{1, -1})...), 5000)
	}
	for _, l := range [][]consider.Maybe{over, under, deep} {
		mustBoth(t, api.ErrArg, -1, l, 5000)
		mustBoth(t, api.ErrArg, least, l, 5000)
		mustLikely(t, 0, api.ErrArg, 100, l, -1)
		mustLikely(t, 0, api.ErrArg, 100, l, whole+1)
		mustBoth(t, api.ErrArg, 100, append(row([2]int64{1, -1}), l...), 5000)
		mustBoth(t, api.ErrArg, 100, append(slices.Clone(l), row([2]int64{1, whole + 1})...), 5000)
	}
	// A sum that is below 0, and no amount, either, is no amount first.
	mustBoth(t, api.ErrOver, 100, deep, 5000)
	mustBoth(t, api.ErrOver, 100, over, 5000)
	mustBoth(t, api.ErrArg, 100, under, 5000)
	mustBoth(t, api.ErrArg, 100, again(1, least, whole), 5000)
	// What may not be is refused also where it isn't sure enough, or its amount is 0.
	mustBoth(t, api.ErrArg, 100, row([2]int64{0, -1}), 5000)
	mustLikely(t, 0, api.ErrArg, 100, row([2]int64{5, -1}), whole)
	mustLikely(t, 0, api.ErrArg, 100, row([2]int64{-5, whole + 1}), 0)
}

// P12.1, P12.2: each row of up to four out of eight that may come, with what is fixed and a bound of few kinds.
func TestRows(t *testing.T) {
	kinds := row([2]int64{1, 5000}, [2]int64{-1, 5000}, [2]int64{3, 0}, [2]int64{-3, whole}, [2]int64{most, 4999}, [2]int64{least, 5001}, [2]int64{-2, -1}, [2]int64{0, 1})
	for many := range 5 {
		for n := range 1 << (3 * many) {
			var l []consider.Maybe
			for place := range many {
				l = append(l, kinds[n>>(3*place)&7])
			}
			for _, fixed := range []int64{-1, 0, 2, most} {
				for _, bound := range []int{0, 4999, 5000, 5001, whole} {
					likely(t, fixed, l, bound)
				}
				mean(t, fixed, l)
			}
		}
	}
}
