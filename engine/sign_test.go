package engine_test

import (
	"math"
	"slices"
	"testing"

	"quitrent/api"
)

// P18.2: sign of each number, and of others, in whichever order.
func TestSignOfNumbers(t *testing.T) {
	p := newPair(t, four())
	for n := range int64(mostContracts) {
		number := n * 7 % mostContracts
		p.must([]int64{100 + number, 2}, sign, of(number, 1+number, nil, row(byDay, 100, 1, 56), row(atOnce, number, 1, 56))...)
	}
	p.same()
	for number := range int64(mostContracts) {
		p.mustRefuse(api.ErrTwice, sign, of(number, 1, nil, row(byDay, 1, 1, 56))...)
	}
	for _, number := range append(far(), mostContracts, mostContracts+1, -mostContracts) {
		if number == 0 {
			continue
		}
		p.mustRefuse(api.ErrName, sign, of(number, 1, nil, row(byDay, 1, 1, 56))...)
	}
}

// wrongs are Args of signs that a contract refuses, and why.
func wrongs(number int64) []struct {
	want api.Errno
	args []int64
} {
	good := row(byDay, 100, 1, 56)
	return []struct {
		want api.Errno
		args []int64
	}{
		{api.ErrArg, of(number, 0, nil, good)},
		{api.ErrArg, of(number, -1, nil, slices.Repeat([][]int64{good}, mostLines+1)...)},
		{api.ErrArg, of(number, mostDay+1, nil, good)},
		{api.ErrFull, of(number, 1, nil, slices.Repeat([][]int64{good}, mostLines+1)...)},
		{api.ErrFull, of(number, 1, nil, slices.Repeat([][]int64{row(99, 1, 1, 1)}, mostLines+1)...)},
		{api.ErrArg, of(number, 1, nil)},
		{api.ErrArg, of(number, 1, nil, good, row(9, 1, 1, 9))},
		{api.ErrArg, of(number, 1, nil, row(-1, 1, 1, 9))},
		{api.ErrArg, of(number, 1, nil, row(byDay, -1, 1, 9))},
		{api.ErrArg, of(number, 1, nil, []int64{byDay, 0, 1, 1, 9})},
		{api.ErrArg, of(number, 1, nil, row(byDay, 1, 0, 9))},
		{api.ErrArg, of(number, 1, nil, row(byDay, 1, 10, 9))},
		{api.ErrArg, of(number, 1, nil, row(byDay, 1, 1, mostDay+1))},
		{api.ErrOver, of(number, 1, nil, []int64{huge, 2, 1, 1, 9})},                                             // what one is worth alone
		{api.ErrOver, of(number, 1, nil, []int64{serial, math.MaxInt64, 1, 1, 9}, []int64{serial, 1, 1, 1, 9})},  // its units
		{api.ErrOver, of(number, 1, [][2]int64{{1, -1}}, row(byDay, math.MaxInt64, 1, 9), row(atOnce, 1, 1, 9))}, // what lines charge, ahead of a chance that may not be
		{api.ErrArg, of(number, 1, [][2]int64{{1, -1}}, good)},                                                   // a chance
		{api.ErrArg, of(number, 1, [][2]int64{{1, whole + 1}}, good)},                                            // likewise
		{api.ErrArg, of(number, 1, [][2]int64{{math.MaxInt64, whole}, {1, whole + 1}}, good)},                    // ahead of the price
		{api.ErrOver, of(number, 1, [][2]int64{{math.MaxInt64, whole}}, good)},                                   // the price
		{api.ErrOver, of(number, 1, [][2]int64{{math.MinInt64, whole}, {-1, whole}}, row(byDay, 0, 1, 9))},       // below all amounts
		{api.ErrArg, of(number, 1, [][2]int64{{-101, whole}}, good)},                                             // below 0
		{api.ErrOver, of(number, 1, nil, row(huge, 1, 1, 9), row(huge, 1, 1, 9))},                                // what all are worth alone
		{api.ErrArg, of(number, 1, [][2]int64{{-2, whole}}, row(huge, 1, 1, 9), row(huge, 0, 1, 9))},             // ahead of that
	}
}

// P18.2: sign with each of the contract's errors, behind which there is none; and again, behind an error.
func TestSignRefused(t *testing.T) {
	p := newPair(t, four())
	for i, x := range wrongs(3) {
		p.mustRefuse(x.want, sign, x.args...)
		p.mustRefuse(api.ErrName, earned, 3, 0, 1)
		if i%5 == 4 {
			q := newPair(t, four())
			q.mustRefuse(x.want, sign, x.args...)
			q.must([]int64{100, 1}, sign, of(3, 1, nil, row(byDay, 100, 1, 56))...)
			q.same()
		}
	}
	p.must([]int64{100, 1}, sign, of(3, 1, nil, row(byDay, 100, 1, 56))...)
	for _, x := range wrongs(3) {
		p.mustRefuse(api.ErrTwice, sign, x.args...)
	}
	for _, x := range wrongs(mostContracts) {
		p.mustRefuse(api.ErrName, sign, x.args...)
	}
	for _, x := range wrongs(-1) {
		p.mustRefuse(api.ErrName, sign, x.args...)
	}
}

// P18.2: what may come counts by the engine's bound, lines that belong together are one obligation, and prices are those of the contract's day.
func TestSignValues(t *testing.T) {
	p := newPair(t, four())
	p.must([]int64{150, 1}, sign, of(0, 1, [][2]int64{{50, 5000}, {70, 4999}, {-20, 5000}}, row(byDay, 100, 1, 56))...)
	p.must([]int64{80, 1}, sign, of(1, 1, [][2]int64{{-20, 5001}}, row(byDay, 100, 1, 56))...)
	p.must([]int64{0, 1}, sign, of(2, 1, [][2]int64{{-100, whole}}, row(byDay, 100, 1, 56))...)
	p.must([]int64{70, 3}, sign, of(3, mostDay, nil, row(bundled, 10, 1, 9), row(serial, 20, 5, 9), row(byDay, 0, 1, 1), row(along, 30, 1, mostDay), row(serial, 10, 1, 9))...)
	p.must(nil, price, byDay, 10, 180)
	p.must([]int64{100, 2}, sign, of(4, 9, nil, row(byDay, 100, 1, 56), row(atOnce, 0, 1, 56))...)
	p.must([]int64{100, 2}, sign, of(5, 10, nil, row(byDay, 100, 1, 56), row(atOnce, 0, 1, 56))...)
	p.must([]int64{50}, earned, 4, 1, 9)
	p.must([]int64{25}, earned, 5, 1, 9)
	p.same()
}

// P18.2: price with each of the book's errors.
func TestPrice(t *testing.T) {
	p := newPair(t, four())
	for _, x := range []struct{ item, day, n int64 }{{-1, 0, 0}, {9, 5, 5}, {40, 5, 5}} {
		p.mustRefuse(api.ErrName, price, x.item, x.day, x.n)
	}
	p.must(nil, price, 0, 5, 5)
	for _, x := range []struct{ item, day, n int64 }{{0, 0, 5}, {0, -1, 5}, {0, mostDay + 1, 5}, {0, 7, 0}, {0, 7, -1}, {0, 7, least}, {0, 5, 0}} {
		p.mustRefuse(api.ErrArg, price, x.item, x.day, x.n)
	}
	p.mustRefuse(api.ErrTwice, price, 0, 5, 6)
	for n := range int64(mostPrices - 1) {
		p.must(nil, price, 0, mostDay-n, most-n)
	}
	p.mustRefuse(api.ErrTwice, price, 0, 5, 6)
	p.mustRefuse(api.ErrFull, price, 0, 6, 6)
	p.must(nil, price, 1, 6, 6)
	p.must([]int64{110, 2}, sign, of(0, 6, nil, row(byDay, 110, 1, 56), row(atOnce, 0, 1, 56))...)
	p.must([]int64{60}, earned, 0, 1, 9)
	p.same()
}

// P18.2: a contract that was signed ahead of a price keeps what it is worth alone, also where that is dated back.
func TestPriceBehindASign(t *testing.T) {
	p := newPair(t, four())
	lines := [][]int64{row(atOnce, 100, 5, 5), row(byDay, 20, 1, 28)}
	p.must([]int64{120, 2}, sign, of(0, 10, nil, lines...)...)
	p.must(nil, price, atOnce, 2, 180)
	p.must([]int64{60}, earned, 0, 0, 28)
	p.must(nil, afresh, 0, 11, 40)
	p.must([]int64{80}, earned, 0, 0, 28)
	p.must([]int64{120, 2}, sign, of(1, 10, nil, lines...)...)
	p.must([]int64{90}, earned, 1, 0, 28)
	p.must([]int64{120, 2}, sign, of(2, 1, nil, lines...)...)
	p.must([]int64{60}, earned, 2, 0, 28)
	p.must([]int64{3}, closing, 0)
	p.same()
}
