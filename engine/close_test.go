package engine_test

import (
	"slices"
	"testing"

	"quitrent/api"
	"quitrent/fiscal"
)

// mustPost holds the postings of an entry, told by pairs: an account, and its amount.
func (p *pair) mustPost(at, period, contract int, pairs ...[2]int64) {
	p.t.Helper()
	var want []api.Posting
	for _, x := range pairs {
		want = append(want, api.Posting{Account: int(x[0]), Contract: contract, Amount: x[1]})
	}
	got, postings, errno := p.e.Ledger().Entry(at)
	if got != period || !slices.Equal(postings, want) || errno != api.OK {
		p.t.Fatalf("entry %d: %d, %v, %d, not %d, %v", at, got, postings, errno, period, want)
	}
}

// P18.2: close of the open period, and of others.
func TestClose(t *testing.T) {
	p := newPair(t, four())
	p.must([]int64{100, 1}, sign, days56(0)...)
	for open := range int64(5) {
		for _, period := range append(far(), 1, 2, 3, 4, 5, 239, 240) {
			if period != open || open == 4 {
				p.mustRefuse(api.ErrArg, closing, period)
			}
		}
		if open < 4 {
			p.must([]int64{at(open < 2, 1)}, closing, open)
		}
	}
	p.mustStand(0, 0, 100)
	p.mustRefuse(api.ErrClosed, bill, 0, 119, 1)
	p.must([]int64{100}, balance, asset, 0, 3)
	p.same()
}

// P18.2: when all periods are closed none is, of engines of one period and of all.
func TestCloseOfAll(t *testing.T) {
	for _, periods := range []int{1, 2, mostPeriods} {
		c := four()
		c.Periods = periods
		p := newPair(t, c)
		p.must([]int64{100, 1}, sign, of(0, 1, nil, row(atOnce, 100, 1, 1))...)
		for period := range int64(periods) {
			p.must([]int64{at(period == 0, 1)}, closing, period)
		}
		p.must([]int64{3, 1}, sign, of(1, 1, nil, row(atOnce, 3, 1, 1))...)
		for _, period := range []int64{-1, 0, int64(periods) - 1, int64(periods), int64(periods) + 1} {
			p.mustRefuse(api.ErrArg, closing, period)
		}
		p.mustStand(1, 0, 0)
		p.same()
	}
}

// P18.2: a close that recognizes nothing, and of contracts by their numbers, in whichever order they were signed.
func TestCloseByNumbers(t *testing.T) {
	p := newPair(t, four())
	for n := range int64(mostContracts) {
		number := n * 17 % mostContracts
		p.must([]int64{1000 + number, 1}, sign, of(number, 1, nil, row(atOnce, 1000+number, 29+28*(number%2), 90))...)
	}
	p.must([]int64{0}, closing, 0)
	p.must([]int64{mostContracts / 2}, closing, 1)
	p.must([]int64{mostContracts / 2}, closing, 2)
	p.must([]int64{0}, closing, 3)
	for number := range mostContracts {
		at := number / 2
		if number%2 == 1 {
			at += mostContracts / 2
		}
		p.mustPost(at, 1+number%2, number, [2]int64{asset, 1000 + int64(number)}, [2]int64{revenue, -1000 - int64(number)})
	}
	p.same()
}

// P18.2: a close that recognizes less than was recognized, behind a change from the beginning, also to 0, that is dated back.
func TestCloseOfLess(t *testing.T) {
	p := newPair(t, four())
	p.must([]int64{100, 1}, sign, days56(3)...)
	p.must([]int64{30, 0}, bill, 3, 1, 30)
	p.must([]int64{1}, closing, 0)
	p.mustPost(1, 0, 3, [2]int64{liability, 30}, [2]int64{asset, 20}, [2]int64{revenue, -50})
	p.must(nil, afresh, 3, 5, -80)
	p.mustStand(3, 30, 50)
	p.must([]int64{1}, closing, 1)
	p.mustStand(3, 30, 20)
	p.mustPost(2, 1, 3, [2]int64{liability, -10}, [2]int64{asset, -20}, [2]int64{revenue, 30})
	p.must(nil, afresh, 3, 5, -20)
	p.must([]int64{1}, closing, 2)
	p.mustStand(3, 30, 0)
	p.mustPost(3, 2, 3, [2]int64{liability, -20}, [2]int64{revenue, 20})
	p.must([]int64{0}, closing, 3)
	p.same()
}

// P18.2: what was earned through the period's last day is recognized, by what is known then; also of a change that comes later, and of what is told of a closed period.
func TestCloseOfWhatIsKnown(t *testing.T) {
	p := newPair(t, four())
	p.must([]int64{100, 1}, sign, of(0, 1, nil, row(percent, 100, 1, 119))...)
	p.must(nil, tell, 0, 0, 28, 1000)
	p.must(nil, tell, 0, 0, 29, 3000)
	p.must([]int64{1}, closing, 0)
	p.mustStand(0, 0, 10)
	p.must(nil, tell, 0, 0, 27, 900)
	p.must(nil, tell, 0, 0, 56, 4000)
	p.must(nil, onward, 0, 60, 900) // of a day behind the period
	p.must([]int64{1}, closing, 1)
	p.mustStand(0, 0, 40)
	p.must(nil, tell, 0, 0, 40, 3500)
	p.must(nil, tell, 0, 0, 70, whole)
	p.must([]int64{1}, closing, 2)
	p.mustStand(0, 0, 1000)
	p.must([]int64{0}, closing, 3)
	p.same()
}

// P18.2: a price that falls behind the day through which is recognized: as much as the price was then.
func TestCloseOfMoreThanThePrice(t *testing.T) {
	p := newPair(t, four())
	p.must([]int64{100, 1}, sign, of(0, 1, nil, row(byDay, 100, 1, 28))...)
	p.must(nil, afresh, 0, 29, -60)
	p.must([]int64{1}, closing, 0)
	p.mustStand(0, 0, 100)
	p.must([]int64{1}, closing, 1)
	p.mustStand(0, 0, 40)
	p.same()
}

// P18.2: a close for which just enough entries are left, and for which there is one too few.
func TestCloseOfAFullLedger(t *testing.T) {
	p := newPair(t, four())
	for number := range int64(3) {
		p.must([]int64{100, 1}, sign, days56(number)...)
	}
	p.must([]int64{9, 1}, sign, of(3, 1, nil, row(atOnce, 9, 50, 50))...)
	p.fill(0, 1, 2)
	p.mustRefuse(api.ErrFull, closing, 0)
	p.mustRefuse(api.ErrArg, closing, 1)
	p.must(nil, afresh, 2, 1, -100)
	p.must([]int64{2}, closing, 0)
	p.mustStand(0, mostEntries-2, 50)
	p.mustStand(1, 0, 50)
	p.mustStand(2, 0, 0)
	p.same()
	p.mustRefuse(api.ErrFull, closing, 1)
	p.mustRefuse(api.ErrFull, bill, 1, 29, 1)
	p.must(nil, afresh, 0, 2, -50)
	p.mustRefuse(api.ErrFull, closing, 1)
	p.must(nil, afresh, 1, 2, -50)
	p.mustRefuse(api.ErrFull, closing, 1)
	p.must(nil, afresh, 3, 2, -9)
	p.must([]int64{0}, closing, 1)
	p.must(nil, afresh, 3, 2, 9)
	p.mustRefuse(api.ErrFull, closing, 2)
	p.mustStand(3, 0, 0)
}

// P18.2: entries that are left for all contracts but one, and for all.
func TestCloseOfAllButOne(t *testing.T) {
	for _, room := range []int{mostContracts, mostContracts - 1, 1, 0} {
		p := newPair(t, four())
		for number := range int64(mostContracts) {
			p.must([]int64{100, 1}, sign, days56(number)...)
		}
		p.fill(5, 28, room)
		if room < mostContracts {
			p.mustRefuse(api.ErrFull, closing, 0)
			continue
		}
		p.must([]int64{mostContracts}, closing, 0)
		p.mustRefuse(api.ErrFull, closing, 1)
	}
}

// P18.2: the days through which is recognized, of calendars of months and of weeks with a long year.
func TestCloseOfCalendars(t *testing.T) {
	for _, c := range []fiscal.Calendar{{Kind: fiscal.Months, First: 1}, {Kind: fiscal.Months, First: 32}, {Kind: fiscal.Weeks, First: 9}, {Kind: fiscal.Weeks, First: 1}} {
		config := four()
		config.Calendar, config.Periods = c, 75
		p := newPair(t, config)
		p.must([]int64{3000, 1}, sign, of(0, 1, nil, row(byDay, 3000, 1, 3000))...)
		for period := range int64(75) {
			p.do(closing, period)
			p.mustStand(0, 0, int64(min(3000, p.m.ends[period][1])))
		}
		p.same()
	}
}

// P18.2, P18.3: contracts that go by days are recognized in full behind a close past all their ends; those that don't aren't.
func TestCloseInFull(t *testing.T) {
	p := newPair(t, four())
	p.must([]int64{1001, 3}, sign, of(0, 1, nil, row(byDay, 1000, 1, 17), row(byDay, 0, 5, 90), row(byDay, 1, 28, 91))...)
	p.must([]int64{77, 2}, sign, of(1, 1, nil, row(byDay, 70, 1, 92), row(atOnce, 7, 2, 2))...)
	p.must([]int64{50, 1}, sign, of(2, 1, nil, []int64{units, 9, 50, 1, 9})...)
	p.must([]int64{2}, closing, 0)
	p.must([]int64{2}, closing, 1)
	p.must(nil, onward, 0, 60, 3)
	p.must([]int64{2}, closing, 2)
	p.mustStand(0, 0, 1004)
	p.must([]int64{1}, closing, 3)
	p.mustStand(1, 0, 77)
	p.mustStand(2, 0, 0)
	p.same()
}
