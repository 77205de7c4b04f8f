package consider_test

import (
	"math/big"
	"testing"

	"quitrent/api"
	"quitrent/consider"
)

// P12.2: sums whose part by Whole isn't whole, above 0 and below: the greatest whole number that is no more.
func TestNotWhole(t *testing.T) {
	for _, c := range []struct {
		amount int64
		chance int
		want   int64
	}{
		{1, 1, 0}, {1, 5000, 0}, {1, whole - 1, 0}, {1, whole, 1}, {3, 5000, 1}, {3, 3333, 0}, {3, 3334, 1}, {3, 9999, 2}, {10001, 9999, 9999}, {7, 1428, 0}, {7, 1429, 1},
		{-1, 0, 0}, {-1, 1, -1}, {-1, 5000, -1}, {-1, whole - 1, -1}, {-1, whole, -1}, {-3, 5000, -2}, {-3, 3333, -1}, {-3, 3334, -2}, {-3, 6666, -2}, {-3, 6667, -3}, {-10001, 9999, -10000}, {-2, 5000, -1},
	} {
		mustMean(t, 100000+c.want, api.OK, 100000, again(1, c.amount, c.chance))
		for _, even := range []int64{10, -10} {
			mustMean(t, 100000+c.want+even/2, api.OK, 100000, row([2]int64{c.amount, int64(c.chance)}, [2]int64{even, 5000}))
		}
	}
	// What is fixed doesn't turn which number it is.
	mustMean(t, 0, api.OK, 1, again(1, -1, 1))
	mustMean(t, 0, api.ErrArg, 0, again(1, -1, 1))
	mustMean(t, 0, api.OK, 0, again(1, 1, whole-1))
}

// P12.2: parts that aren't whole by themselves, but together; one less, and one more.
func TestTogetherWhole(t *testing.T) {
	mustMean(t, 101, api.OK, 100, again(2, 1, 5000))
	mustMean(t, 100, api.OK, 100, row([2]int64{1, 5000}, [2]int64{1, 4999}))
	mustMean(t, 101, api.OK, 100, row([2]int64{1, 5000}, [2]int64{1, 5001}))
	mustMean(t, 99, api.OK, 100, again(2, -1, 5000))
	mustMean(t, 99, api.OK, 100, row([2]int64{-1, 5000}, [2]int64{-1, 4999}))
	mustMean(t, 98, api.OK, 100, row([2]int64{-1, 5000}, [2]int64{-1, 5001}))
	mustMean(t, 100, api.OK, 100, row([2]int64{1, 5000}, [2]int64{-1, 5000}))
	mustMean(t, 99, api.OK, 100, row([2]int64{1, 5000}, [2]int64{-1, 5001}))
	mustMean(t, 100, api.OK, 100, row([2]int64{1, 5001}, [2]int64{-1, 5000}))
	// 32 times 3125 are ten times Whole.
	mustMean(t, 110, api.OK, 100, again(32, 1, 3125))
	mustMean(t, 90, api.OK, 100, again(32, -1, 3125))
	mustMean(t, 109, api.OK, 100, append(again(31, 1, 3125), row([2]int64{1, 3124})...))
	mustMean(t, 89, api.OK, 100, append(again(31, -1, 3125), row([2]int64{-1, 3126})...))
	mustMean(t, 131, api.OK, 100, again(32, 1, whole-1))
	mustMean(t, 68, api.OK, 100, again(32, -1, whole-1))
	mustMean(t, 100, api.OK, 100, again(32, 1, 312))
	mustMean(t, 101, api.OK, 100, again(32, 1, 313))
	mustMean(t, 99, api.OK, 100, again(32, -1, 312))
	mustMean(t, 98, api.OK, 100, again(32, -1, 313))
}

// part tells the greatest whole number that is no more than an amount times points, by Whole.
func part(amount, points int64) int64 {
	exact := new(big.Int).Mul(big.NewInt(amount), big.NewInt(points))
	return exact.Div(exact, big.NewInt(whole)).Int64()
}

// P12.2: the greatest products.
func TestGreatestProducts(t *testing.T) {
	mustMean(t, most, api.OK, 0, again(1, most, whole))
	mustMean(t, 0, api.ErrOver, 1, again(1, most, whole))
	mustMean(t, most, api.OK, 1, again(1, most-1, whole))
	mustMean(t, 0, api.ErrArg, 0, again(1, least, whole))
	mustMean(t, 0, api.ErrArg, most, again(1, least, whole))
	mustMean(t, 0, api.OK, most, again(1, -most, whole))
	up, down := part(most, whole-1), part(least, whole-1)
	if up != 9222449699651090329 || down != -9222449699651090331 {
		t.Fatalf("parts: %d, %d", up, down)
	}
	mustMean(t, up, api.OK, 0, again(1, most, whole-1))
	mustMean(t, most, api.OK, most-up, again(1, most, whole-1))
	mustMean(t, 0, api.ErrOver, most-up+1, again(1, most, whole-1))
	mustMean(t, 0, api.ErrArg, 0, again(1, least, whole-1))
	mustMean(t, 0, api.OK, -down, again(1, least, whole-1))
	mustMean(t, 0, api.ErrArg, -down-1, again(1, least, whole-1))
	mustMean(t, most+down, api.OK, most, again(1, least, whole-1))
	for _, chance := range []int{whole - 1, whole} {
		mustMean(t, 0, api.ErrOver, 0, again(32, most, chance))
		mustMean(t, 0, api.ErrOver, most, again(32, least, chance))
		both := append(again(16, most, chance), again(16, least, chance)...)
		// -16 times the chance, by Whole: -15.9984 isn't whole.
		mustMean(t, 0, api.OK, 16, both)
		mustMean(t, 0, api.ErrArg, 15, both)
		mustMean(t, most-16, api.OK, most, both)
	}
	// The products leave 64 bits, and their part doesn't.
	mustMean(t, 1<<62, api.OK, 0, again(32, 1<<60, 1250))
	mustMean(t, 0, api.ErrOver, 1<<62, again(32, 1<<60, 1250))
	mustMean(t, most, api.OK, 1<<62-1, again(32, 1<<60, 1250))
	mustMean(t, 0, api.OK, 1<<62, again(32, -1<<60, 1250))
}

// P12.2: a part of all that is no amount makes an error by what is fixed with it; sums at the ends of 64 bits that only rests tell apart.
func TestMeanOver(t *testing.T) {
	// 2^63 - 1, and a half twice.
	halves := row([2]int64{most, whole}, [2]int64{1, 5000}, [2]int64{1, 5000})
	mustMean(t, 0, api.ErrOver, 0, halves)
	mustMean(t, most, api.OK, 0, halves[:2])
	halves[2].Chance = 4999
	mustMean(t, most, api.OK, 0, halves)
	// -2^63, and a little less, which is -2^63 - 1.
	deep := row([2]int64{least, whole}, [2]int64{-1, 1})
	mustMean(t, 0, api.ErrOver, 0, deep)
	mustMean(t, 0, api.ErrArg, 1, deep)
	mustMean(t, 0, api.ErrArg, most, deep)
	// Parts of -2^64 that what is fixed makes amounts again, and of some that it doesn't.
	mustMean(t, 0, api.ErrArg, most, row([2]int64{least, whole}, [2]int64{least + 1, whole}))
	mustMean(t, 0, api.ErrOver, most-1, row([2]int64{least, whole}, [2]int64{least + 1, whole}))
	mustMean(t, 0, api.ErrOver, most, row([2]int64{least, whole}, [2]int64{least + 1, whole}, [2]int64{-1, 1}))
	mustMean(t, 0, api.ErrArg, most, row([2]int64{least, whole}, [2]int64{least + 1, whole}, [2]int64{1, 1}))
	mustMean(t, 0, api.ErrOver, most, again(2, least, whole))
	mustMean(t, 0, api.ErrArg, most-1, row([2]int64{least, whole}, [2]int64{least + 1, whole}, [2]int64{1, 5000}, [2]int64{1, 5000}))
}

// P12.2: chances count each, whatever a bound would make of them.
func TestMeanOfEachChance(t *testing.T) {
	for chance := range whole + 1 {
		mustMean(t, int64(chance), api.OK, 0, again(1, whole, chance))
		mustMean(t, whole-int64(chance), api.OK, whole, again(1, -whole, chance))
		mustMean(t, 32*int64(chance)*3/whole, api.OK, 0, again(32, 3, chance))
	}
}

// P12.2: what may come stands for itself, not for those of the same amount or chance.
func TestMeanOfEachPlace(t *testing.T) {
	for place := range 32 {
		l := make([]consider.Maybe, 32)
		l[place] = consider.Maybe{Amount: 1000, Chance: 7000}
		mustMean(t, 750, api.OK, 50, l)
		mustLikely(t, 1050, api.OK, 50, l, 7000)
		mustLikely(t, 50, api.OK, 50, l, 7001)
		l[place].Amount = -1000
		mustMean(t, 1300, api.OK, 2000, l)
		mustLikely(t, 1000, api.OK, 2000, l, 3001)
		mustLikely(t, 2000, api.OK, 2000, l, 3000)
	}
}
