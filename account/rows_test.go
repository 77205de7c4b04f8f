package account_test

import (
	"slices"
	"testing"

	"quitrent/api"
)

// do does a call of one of ten kinds, to a ledger of two periods.
func do(p *pair, kind int) {
	switch kind {
	case 0:
		p.post(0, both(0, 0, 3, most)...)
	case 1:
		p.post(1, both(0, 0, 3, -most)...)
	case 2:
		p.post(0, api.Posting{Amount: least}, api.Posting{Account: 1, Amount: most}, api.Posting{Account: 2, Amount: 1})
	case 3:
		p.post(1, append(both(0, 0, 3, 1), both(1, 0, 3, -2)...)...)
	case 4:
		p.post(0, api.Posting{Amount: 1}, api.Posting{Contract: 1, Amount: -1})
	case 5:
		p.reverse(0, 0)
	case 6:
		p.reverse(0, 1)
	case 7:
		p.reverse(1, 1)
	case 8:
		p.close(0)
	case 9:
		p.close(1)
	}
}

// P9.2, P9.3, P9.4: each row of four calls out of ten kinds; behind the last one, whatever it answered, all is told as the chapter says.
func TestRows(t *testing.T) {
	for row := range 10000 {
		p := newPair(t, 2)
		for n, left := 0, row; n < 4; n, left = n+1, left/10 {
			do(p, left%10)
		}
		if p.same(); t.Failed() {
			t.Fatalf("row %d", row)
		}
	}
}

// amount tells one of the sizes at which sums turn over.
func amount(next func(int) int) int64 {
	switch next(4) {
	case 0:
		return []int64{most, least, most - 1, least + 1, most / 2, least / 2}[next(6)]
	case 1:
		return int64(next(1<<53)<<11) ^ least
	}
	return int64(next(9)) - 4
}

// list tells postings that are even most of the time, of few contracts.
func list(next func(int) int) []api.Posting {
	var l []api.Posting
	for range 1 + next(3) {
		contract, n := []int{0, 1, 39}[next(3)], amount(next)
		l = append(l, api.Posting{Account: next(4), Contract: contract, Amount: n})
		// In two parts, as -2^63 has no opposite.
		half := n / 2
		l = append(l, api.Posting{Account: next(4), Contract: contract, Amount: -half}, api.Posting{Account: next(4), Contract: contract, Amount: -(n - half)})
	}
	switch next(16) {
	case 0:
		l[next(len(l))].Amount = amount(next)
	case 1:
		l[next(len(l))].Account = next(6) - 1
	case 2:
		l[next(len(l))].Contract = next(42) - 1
	}
	return l
}

// P9.2, P9.3, P9.4: long rows of mixed calls, with amounts of all sizes.
func TestMixed(t *testing.T) {
	next := random()
	seen := map[api.Errno]int{}
	for range 150 {
		p := newPair(t, 1+next(5))
		for range 40 {
			period := next(p.m.periods+2) - 1
			switch next(10) {
			case 0:
				if next(3) == 0 {
					seen[p.close(period)]++
				}
			case 1, 2, 3:
				seen[p.reverse(next(p.l.Many()+2)-1, period)]++
			default:
				seen[p.post(period, list(next)...)]++
			}
			p.same()
		}
	}
	for _, errno := range []api.Errno{api.OK, api.ErrArg, api.ErrOver, api.ErrName, api.ErrTwice, api.ErrClosed, api.ErrEven} {
		if seen[errno] < 20 {
			t.Errorf("error %d came %d times", errno, seen[errno])
		}
	}
}

// closedTold is all that a ledger tells of periods that are closed.
func closedTold(p *pair) []int64 {
	var l []int64
	for period := range p.l.Open() {
		for at := range 4 {
			total, errno := p.l.Total(at, period)
			l = append(l, total, int64(errno))
			for contract := range 40 {
				l = append(l, p.l.Moved(at, contract, period), p.l.Balance(at, contract, period))
			}
		}
	}
	return l
}

// P9.5: what is told of closed periods is the same, whatever comes; totals through a period are together 0.
func TestClosedStays(t *testing.T) {
	next := random()
	for range 60 {
		p := newPair(t, 1+next(6))
		for p.l.Open() < p.m.periods || next(4) > 0 {
			before := closedTold(p)
			for range next(8) {
				period := next(p.m.periods+2) - 1
				if next(3) == 0 {
					p.reverse(next(p.l.Many()+2)-1, period)
				} else {
					p.post(period, list(next)...)
				}
			}
			p.close(p.l.Open())
			if after := closedTold(p); !slices.Equal(after[:len(before)], before) {
				t.Fatal("what is told of a closed period changed")
			}
			holdZero(t, p)
		}
	}
}

// holdZero holds that totals through each period are together 0, where they are amounts.
func holdZero(t *testing.T, p *pair) {
	t.Helper()
	for period := range p.m.periods {
		sum, over := int64(0), false
		for at := range 4 {
			total, errno := p.l.Total(at, period)
			sum, over = sum+total, over || errno != api.OK
		}
		if sum != 0 && !over {
			t.Fatalf("totals through %d are together %d", period, sum)
		}
	}
}
