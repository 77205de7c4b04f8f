package engine_test

import (
	"testing"

	"quitrent/api"
	"quitrent/fiscal"
)

// days56 is a sign of 100 by the days of periods 0 and 1.
func days56(number int64) []int64 { return of(number, 1, nil, row(byDay, 100, 1, 56)) }

// P18.2: bill of amounts, at the days of the open period.
func TestBill(t *testing.T) {
	p := newPair(t, four())
	p.must([]int64{100, 1}, sign, days56(0)...)
	for _, amount := range []int64{0, -1, least, least + 1} {
		p.mustRefuse(api.ErrArg, bill, 0, 1, amount)
	}
	p.must([]int64{1, 0}, bill, 0, 1, 1)
	p.must([]int64{8, 0}, bill, 0, 28, 7)
	p.must([]int64{1}, closing, 0)
	p.must([]int64{0, 32}, bill, 0, 29, 10)
	p.must([]int64{18, 0}, bill, 0, 56, 50)
	p.must([]int64{0}, balance, asset, 0, 1)
	p.must([]int64{-18}, balance, liability, 0, 1)
	p.must([]int64{42}, balance, asset, 0, 0)
	p.same()
}

// P18.2: bill of as much as an amount may be, together, and of more.
func TestBillOfMuch(t *testing.T) {
	p := newPair(t, four())
	p.must([]int64{100, 1}, sign, days56(0)...)
	p.must([]int64{100, 1}, sign, days56(1)...)
	p.must([]int64{most, 1}, sign, of(2, 1, nil, row(byDay, most, 1, 28))...)
	p.must([]int64{most, 0}, bill, 0, 1, most)
	p.mustRefuse(api.ErrOver, bill, 0, 1, 1)
	p.mustRefuse(api.ErrOver, bill, 0, 1, most)
	p.must([]int64{most - 1, 0}, bill, 1, 1, most-1)
	p.mustRefuse(api.ErrOver, bill, 1, 1, 2)
	p.must([]int64{most, 0}, bill, 1, 1, 1)
	p.must([]int64{3}, closing, 0)
	p.mustStand(2, 0, most)
	p.mustRefuse(api.ErrOver, bill, 0, 29, 1)
	p.must([]int64{0, most - 5}, bill, 2, 29, 5)
	p.must([]int64{0, 0}, bill, 2, 29, most-5)
	p.mustRefuse(api.ErrOver, bill, 2, 29, 1)
	p.must([]int64{2}, closing, 1)
	p.same()
}

// P18.2: bill at each day of an engine's periods, and ahead and behind them.
func TestBillAtDays(t *testing.T) {
	for _, c := range []fiscal.Calendar{{Kind: fiscal.Weeks, First: 11}, {Kind: fiscal.Months, First: 32}} {
		config := four()
		config.Calendar, config.Periods = c, 3
		p := newPair(t, config)
		p.must([]int64{100, 1}, sign, days56(0)...)
		for open := range 4 {
			for day := -1; day <= p.m.ends[4][1]; day++ {
				want := api.OK
				switch {
				case day < p.m.ends[0][0], day > p.m.ends[2][1]:
					want = api.ErrArg
				case open == 3, day < p.m.ends[open][0]:
					want = api.ErrClosed
				case day > p.m.ends[open][1]:
					want = api.ErrOrder
				}
				if got := p.do(bill, 0, int64(day), 1); got.errno != want {
					t.Fatalf("with %d open, at %d: %d, not %d", open, day, got.errno, want)
				}
			}
			p.same()
			for _, day := range append(far(), mostDay, mostDay+1) {
				if day != 0 {
					p.mustRefuse(api.ErrArg, bill, 0, day, 1)
				}
			}
			p.do(closing, int64(open))
		}
		p.mustStand(0, int64(p.m.ends[2][1]-p.m.ends[0][0]+1), 100)
	}
}

// P18.2: the last period that there may be, and where an engine has fewer than its calendar.
func TestBillInTheLastPeriod(t *testing.T) {
	config := four()
	config.Periods = mostPeriods
	p := newPair(t, config)
	p.must([]int64{100, 1}, sign, days56(0)...)
	last := int64(p.m.ends[mostPeriods-1][1])
	for period := range int64(mostPeriods - 1) {
		p.mustRefuse(api.ErrOrder, bill, 0, last, 1)
		p.do(closing, period)
	}
	p.must([]int64{0, 93}, bill, 0, last, 7)
	p.mustRefuse(api.ErrArg, bill, 0, last+1, 7)
	p.must([]int64{0}, closing, mostPeriods-1)
	p.mustRefuse(api.ErrClosed, bill, 0, last, 7)
	p.mustRefuse(api.ErrArg, bill, 0, last+1, 7)
	p.mustRefuse(api.ErrArg, closing, mostPeriods)
	p.same()
}

// fill bills a contract by 1 in the open period until the ledger has room for so many entries.
func (p *pair) fill(number, day int64, room int) {
	p.t.Helper()
	for len(p.m.entries) < mostEntries-room {
		if got := p.do(bill, number, day, 1); got.errno != api.OK {
			p.t.Fatalf("bill of %d at %d: %d", number, day, got.errno)
		}
	}
}

// P18.2: bill with a ledger that is full.
func TestBillOfAFullLedger(t *testing.T) {
	p := newPair(t, four())
	p.must([]int64{100, 1}, sign, days56(0)...)
	p.must([]int64{100, 1}, sign, days56(1)...)
	p.must([]int64{most, 0}, bill, 1, 1, most)
	p.fill(0, 1, 1)
	p.must([]int64{mostEntries - 1, 0}, bill, 0, 1, 1)
	p.mustRefuse(api.ErrFull, bill, 0, 1, 1)
	p.mustRefuse(api.ErrFull, bill, 0, 28, most-mostEntries)
	p.mustRefuse(api.ErrOver, bill, 1, 1, 1)
	p.mustRefuse(api.ErrOrder, bill, 1, 29, 1)
	p.mustRefuse(api.ErrArg, bill, 1, 29, 0)
	p.mustRefuse(api.ErrFull, closing, 0)
	p.mustStand(0, mostEntries-1, 0)
}

// P18.2: the errors of bill, in their order.
func TestBillInOrder(t *testing.T) {
	p := newPair(t, four())
	p.must([]int64{100, 1}, sign, days56(0)...)
	p.must([]int64{most, 0}, bill, 0, 1, most)
	p.must([]int64{1}, closing, 0)
	p.mustRefuse(api.ErrForm, bill, 7, 0, 0, 0)
	p.mustRefuse(api.ErrForm, bill, 0, 0)
	p.mustRefuse(api.ErrName, bill, 7, 0, 0)
	p.mustRefuse(api.ErrName, bill, 7, 1, most)
	p.mustRefuse(api.ErrArg, bill, 0, 1, 0)       // ahead of ErrClosed
	p.mustRefuse(api.ErrArg, bill, 0, 90, 0)      // ahead of ErrOrder
	p.mustRefuse(api.ErrArg, bill, 0, 120, most)  // ahead of ErrOver
	p.mustRefuse(api.ErrClosed, bill, 0, 1, most) // likewise
	p.mustRefuse(api.ErrOrder, bill, 0, 57, most) // likewise
	p.mustRefuse(api.ErrOver, bill, 0, 30, most)
	p.must([]int64{1}, closing, 1)
	p.mustRefuse(api.ErrClosed, bill, 0, 56, 1)
	p.mustRefuse(api.ErrOver, bill, 0, 57, 1)
}
