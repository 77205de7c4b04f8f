package engine_test

import (
	"slices"
	"testing"

	"quitrent/api"
)

// stand is an engine with contracts, of which something was billed, told and recognized, in period 1.
func stand(t *testing.T) *pair {
	t.Helper()
	p := newPair(t, four())
	p.must([]int64{1000, 4}, sign, of(0, 1, nil, row(byDay, 400, 1, 100), row(atOnce, 200, 30, 30), row(percent, 200, 1, 56), []int64{units, 10, 200, 1, 56})...)
	p.must([]int64{100, 1}, sign, of(1, 5, nil, row(byDay, 100, 1, 28))...)
	p.must([]int64{60, 0}, bill, 0, 28, 60)
	p.must(nil, tell, 0, 2, 20, 4000)
	p.must([]int64{2}, closing, 0)
	return p
}

// valid are Args of each Kind that stand takes, but sign's, and which of them are amounts.
func valid() map[int][]int64 {
	return map[int][]int64{
		bill: {0, 30, 50}, tell: {0, 3, 40, 2}, onward: {0, 40, 50}, afresh: {0, 40, -20},
		price: {0, 40, 70}, closing: {1}, earned: {0, 3, 40}, balance: {1, 0, 1},
	}
}

// P18.2: each number of each Kind, far or not, and numbers by which it would be a valid one if it were cut.
func TestNumbers(t *testing.T) {
	for kind, args := range valid() {
		for at, n := range args {
			for _, other := range append(far(), n-1<<32, n+1<<32, n-1<<31, n+1<<31, n-1<<33, n+1<<40, n-1, n+1, 2, 5, 39, 40, 240) {
				changed := slices.Clone(args)
				changed[at] = other
				p := stand(t)
				p.do(kind, changed...)
				p.same()
				p.do(kind, args...)
				p.same()
			}
		}
	}
}

// P18.2: each number of a sign likewise.
func TestNumbersOfASign(t *testing.T) {
	args := of(2, 30, [][2]int64{{50, 6000}, {-20, 3000}}, []int64{byDay, 3, 100, 30, 60}, []int64{units, 5, 100, 30, 60})
	for at, n := range args {
		for _, other := range append(far(), n-1<<32, n+1<<32, n-1<<31, n+1<<31, n+1<<40, n-1, n+1, 5000, 10000, 10001, mostDay, mostDay+1) {
			changed := slices.Clone(args)
			changed[at] = other
			p := stand(t)
			p.do(sign, changed...)
			p.same()
			p.do(sign, args...)
			p.same()
		}
	}
}

// P18.2: numbers that are no amounts count as -2^31, where they are beyond 32 bits, in words of the chapter alone.
func TestBeyond32Bits(t *testing.T) {
	p := stand(t)
	for _, beyond := range []int64{least, -1<<31 - 1, -1 << 31, 1 << 31, 1 << 32, 1<<32 + 1, 1<<32 + 40, most} {
		// Through no day of the past nothing is earned; through the last one that counts all is.
		p.must([]int64{0}, earned, 0, 0, beyond)
		p.mustRefuse(api.ErrName, earned, 0, beyond, 40)
		p.mustRefuse(api.ErrName, earned, beyond, 0, 40)
		p.mustRefuse(api.ErrName, bill, beyond, 30, 50)
		p.mustRefuse(api.ErrArg, bill, 0, beyond, 50)
		p.mustRefuse(api.ErrName, tell, beyond, 3, 40, 2)
		p.mustRefuse(api.ErrName, tell, 0, beyond, 40, 2)
		p.mustRefuse(api.ErrArg, tell, 0, 3, beyond, 2)
		p.mustRefuse(api.ErrName, onward, beyond, 40, 50)
		p.mustRefuse(api.ErrArg, onward, 0, beyond, 50)
		p.mustRefuse(api.ErrName, afresh, beyond, 40, 50)
		p.mustRefuse(api.ErrArg, afresh, 0, beyond, 50)
		p.mustRefuse(api.ErrName, price, beyond, 40, 70)
		p.mustRefuse(api.ErrArg, price, 0, beyond, 70)
		p.mustRefuse(api.ErrArg, closing, beyond)
		p.mustRefuse(api.ErrArg, balance, beyond, 0, 1)
		p.mustRefuse(api.ErrName, balance, 1, beyond, 1)
		p.mustRefuse(api.ErrArg, balance, 1, 0, beyond)
		p.mustRefuse(api.ErrName, sign, of(beyond, 30, nil, row(byDay, 9, 1, 9))...)
		p.mustRefuse(api.ErrArg, sign, of(2, beyond, nil, row(byDay, 9, 1, 9))...)
		p.mustRefuse(api.ErrArg, sign, of(2, 30, [][2]int64{{1, beyond}}, row(byDay, 9, 1, 9))...)
		p.mustRefuse(api.ErrArg, sign, of(2, 30, nil, row(beyond, 9, 1, 9))...)
		p.mustRefuse(api.ErrArg, sign, of(2, 30, nil, row(byDay, 9, beyond, 9))...)
		p.mustRefuse(api.ErrArg, sign, of(2, 30, nil, row(byDay, 9, 1, beyond))...)
	}
	p.must([]int64{77}, earned, 0, 0, 1<<31-1) // 60 of 780, of 1000
	p.must([]int64{0}, earned, 0, 0, -1<<31)
}

// P18.2: amounts, units, charges, n, more and prices count as they are, beyond 32 bits, too.
func TestAmountsCountAsTheyAre(t *testing.T) {
	p := newPair(t, four())
	p.must(nil, price, little, 1, 1<<33)
	p.must([]int64{1<<40 + 1<<34 - 1<<35, 1}, sign, of(0, 1, [][2]int64{{1 << 34, whole}, {-1 << 35, whole}}, []int64{units, 1 << 36, 1 << 40, 1, 56})...)
	p.must(nil, tell, 0, 0, 5, 1<<35)
	p.must([]int64{(1<<40 + 1<<34 - 1<<35) / 2}, earned, 0, 0, 5)
	p.must([]int64{1 << 33, 0}, bill, 0, 1, 1<<33)
	p.must(nil, afresh, 0, 6, -1<<39)
	p.mustRefuse(api.ErrArg, afresh, 0, 6, -1<<39)
	p.must(nil, onward, 0, 6, 1<<41)
	p.same()
	// 7 units of 2^33 are as much as 60 alone, seven times 2^33 by 60 to one.
	p.must([]int64{(7<<33 + 60) * 9, 2}, sign, of(1, 1, nil, []int64{little, 7, (7<<33 + 60) * 9, 1, 9}, row(byDay, 0, 1, 9))...)
	p.must([]int64{540}, earned, 1, 1, 9)
	p.same()
}
