package account_test

import (
	"math"
	"slices"
	"testing"

	"quitrent/api"
)

// three is a ledger of 4 periods with three entries, in periods 1, 2 and 1.
func three(t *testing.T) *pair {
	t.Helper()
	p := newPair(t, 4)
	p.must(api.OK, p.post(1, both(0, 0, 1, 10)...))
	p.must(api.OK, p.post(2, append(both(39, 2, 3, -20), both(0, 0, 3, 7)...)...))
	p.must(api.OK, p.post(1, both(1, 1, 2, 0)...))
	return p
}

// P9.3: Reverse of each entry in each period, of those that there are none of, and where periods are closed.
func TestReverse(t *testing.T) {
	for closed := range 5 {
		for _, entry := range []int{math.MinInt, -1, 0, 1, 2, 3, 4, math.MaxInt} {
			for _, period := range []int{math.MinInt, -1, 0, 1, 2, 3, 4, math.MaxInt} {
				p := three(t)
				for i := range closed {
					p.must(api.OK, p.close(i))
				}
				want := api.OK
				switch {
				case entry < 0 || entry > 2:
					want = api.ErrName
				case period < 0 || period > 3:
					want = api.ErrArg
				case period < closed:
					want = api.ErrClosed
				}
				p.must(want, p.reverse(entry, period))
				p.same()
			}
		}
	}
}

// P9.3: what a reversal is: postings in the same order, each of the other sign, in its period.
func TestReversal(t *testing.T) {
	p := three(t)
	if n, errno := p.l.Reverse(1, 3); n != 3 || errno != api.OK {
		t.Fatalf("Reverse: %d, %d", n, errno)
	}
	want := []api.Posting{{Account: 2, Contract: 39, Amount: 20}, {Account: 3, Contract: 39, Amount: -20}, {Account: 0, Contract: 0, Amount: -7}, {Account: 3, Contract: 0, Amount: 7}}
	if period, l, errno := p.l.Entry(3); period != 3 || !slices.Equal(l, want) || errno != api.OK {
		t.Fatalf("Entry of the reversal: %d, %v, %d", period, l, errno)
	}
	if period, l, _ := p.l.Entry(1); period != 2 || l[0].Amount != -20 {
		t.Fatalf("Entry of what was reversed: %d, %v", period, l)
	}
}

// P9.3: ErrTwice of what was reversed, and of a reversal, whatever the period; others are reversed still, each of them once.
func TestTwice(t *testing.T) {
	p := three(t)
	p.must(api.OK, p.reverse(1, 0))
	for _, period := range []int{-1, 0, 1, 3, 4} {
		p.must(api.ErrTwice, p.reverse(1, period))
		p.must(api.ErrTwice, p.reverse(3, period))
	}
	p.must(api.ErrName, p.reverse(4, 0))
	p.must(api.OK, p.reverse(0, 3))
	p.must(api.ErrTwice, p.reverse(4, 3))
	p.must(api.OK, p.reverse(2, 3))
	for entry := range 6 {
		p.must(api.ErrTwice, p.reverse(entry, 3))
	}
	p.must(api.OK, p.post(3, both(0, 0, 1, 10)...))
	p.must(api.OK, p.reverse(6, 3))
	p.same()
}

// P9.3: behind an error an entry isn't reversed: it is once the error's cause is gone.
func TestReverseAgain(t *testing.T) {
	p := three(t)
	p.must(api.OK, p.close(0))
	for _, period := range []int{-1, 0, 4} {
		p.reverse(0, period)
	}
	p.must(api.OK, p.post(3, both(0, 0, 2, least+5)...))
	p.must(api.ErrOver, p.reverse(1, 3))
	p.same()
	p.must(api.OK, p.post(3, both(0, 0, 2, 100)...))
	p.must(api.OK, p.reverse(1, 3))
	p.must(api.OK, p.reverse(0, 3))
	p.same()
}

// P9.3: an amount of -2^63 isn't reversed, ahead of what Post refuses; one of -2^63 + 1 is.
func TestReverseLeast(t *testing.T) {
	for place := range 3 {
		l := []api.Posting{{Account: 1, Amount: most}, {Account: 2, Amount: 1}}
		l = slices.Insert(l, place, api.Posting{Amount: least})
		p := newPair(t, 2)
		p.must(api.OK, p.post(1, l...))
		for _, period := range []int{-1, 0, 1, 2} {
			p.must(api.ErrOver, p.reverse(0, period))
		}
		p.must(api.OK, p.close(0))
		p.must(api.ErrOver, p.reverse(0, 0))
		p.must(api.ErrName, p.reverse(1, 0))
		p.same()
	}
	p := newPair(t, 2)
	p.must(api.OK, p.post(1, both(0, 0, 1, -most)...))
	p.must(api.OK, p.reverse(0, 0))
	p.must(api.ErrTwice, p.reverse(0, 0))
	p.same()
}

// P9.3: ErrOver of a reversal's movement, and of a balance through a later period.
func TestReverseOver(t *testing.T) {
	p := newPair(t, 3)
	p.must(api.OK, p.post(2, both(0, 0, 1, -5)...))
	p.must(api.OK, p.post(1, both(0, 0, 1, most)...))
	p.must(api.ErrOver, p.reverse(0, 0)) // the balance through period 1 alone
	p.must(api.ErrOver, p.reverse(0, 1)) // the movement of period 1, too
	p.must(api.OK, p.reverse(0, 2))
	p.same()
	p = newPair(t, 3)
	p.must(api.OK, p.post(0, both(0, 0, 1, -most)...))
	p.must(api.OK, p.post(0, both(0, 0, 2, -1)...))
	p.must(api.OK, p.post(1, both(0, 0, 1, most)...))
	p.must(api.ErrOver, p.reverse(1, 1)) // the movement of period 1 alone
	p.must(api.OK, p.reverse(1, 2))
	p.same()
}

// P9.5: an entry and its reversal leave balances as they were, through each period from both of them on, and all of them where both are of one.
func TestReversalLeaves(t *testing.T) {
	p := three(t)
	balances := func(from int) []int64 {
		var l []int64
		for period := from; period < 4; period++ {
			for at := range 4 {
				for contract := range 40 {
					l = append(l, p.l.Balance(at, contract, period))
				}
			}
		}
		return l
	}
	for period := range 4 {
		for into := range 4 {
			from := max(period, into)
			if period == into {
				from = 0
			}
			before := balances(from)
			p.must(api.OK, p.post(period, both(0, 0, 2, 1000)...))
			if slices.Equal(balances(from), before) {
				t.Fatal("the entry left balances as they were")
			}
			p.must(api.OK, p.reverse(p.l.Many()-1, into))
			if !slices.Equal(balances(from), before) {
				t.Fatalf("of period %d, reversed in %d: balances changed", period, into)
			}
		}
	}
	p.same()
}
