package report_test

import (
	"testing"

	"quitrent/api"
	"quitrent/engine"
	"quitrent/report"
)

// P19.1: of no engine, whichever the number.
func TestWaterfallOfNoEngine(t *testing.T) {
	for _, number := range append(far(), 0, 1, 39) {
		if got, rest, errno := report.Waterfall(nil, number); got != nil || rest != 0 || errno != api.ErrArg {
			t.Fatalf("Waterfall of %d: %v, %d, %d", number, got, rest, errno)
		}
		if got, errno := report.Remaining(nil, number); got != 0 || errno != api.ErrArg {
			t.Fatalf("Remaining of %d: %d, %d", number, got, errno)
		}
	}
}

// P19.1: of contracts that there are, and of those that there aren't, in an engine with none, with some, and with all.
func TestWaterfallOfNoContract(t *testing.T) {
	d := newDesk(t, weeks(2))
	for number := range mostContracts {
		d.mustBeNone(number)
	}
	d.sign(0, row(byDay, 100, 1, 56))
	d.sign(39, row(byDay, 60, 29, 56))
	d.falls(0, 50, 50, 0)
	d.falls(39, 0, 60, 0)
	for _, number := range append(far(), 1, 2, 38) {
		d.mustBeNone(number)
	}
	for number := range int64(38) {
		d.sign(38-number, row(byDay, 56*(38-number), 1, 56))
	}
	for number := 1; number < 39; number++ {
		n := int64(number)
		d.falls(number, 28*n, 28*n, 0)
	}
	for _, number := range far() {
		d.mustBeNone(number)
	}
	d.same()
}

// P19.1: a contract whose sign was refused isn't there.
func TestWaterfallOfARefusedSign(t *testing.T) {
	d := newDesk(t, weeks(2))
	if r := d.do(sign, 3, 0, 0, 1, byDay, 1, 5, 1, 9); r.E != api.ErrArg {
		t.Fatalf("a sign at day 0: %d", r.E)
	}
	d.mustBeNone(3)
	d.sign(3, row(byDay, 5, 1, 5))
	d.falls(3, 5, 0, 0)
}

// P19.1: the chapter's example, and behind each close.
func TestExample(t *testing.T) {
	d := newDesk(t, weeks(2))
	d.sign(0, row(byDay, 100, 1, 56))
	d.falls(0, 50, 50, 0)
	d.close(1)
	d.falls(0, 50, 0)
	d.close(1)
	d.falls(0, 0)
}

// P19.1: engines of one period, of two and of as many as there may be, with none closed, one, all but one, and all.
func TestWaterfallOfPeriods(t *testing.T) {
	d := newDesk(t, weeks(1))
	d.sign(0, row(byDay, 100, 1, 56))
	d.falls(0, 50, 50)
	d.close(1)
	d.falls(0, 50)
	d = newDesk(t, weeks(2))
	d.sign(0, row(byDay, 91, 1, 91))
	d.falls(0, 28, 28, 35)
	d.close(1)
	d.falls(0, 28, 35)
	d.close(1)
	d.falls(0, 35)
	d = newDesk(t, weeks(6))
	d.sign(0, row(byDay, 182, 1, 182))
	d.falls(0, 28, 28, 35, 28, 28, 35, 0)
	d.close(5)
	d.falls(0, 35, 0)
	d.close(1)
	d.falls(0, 0)
}

// P19.1: an engine of as many periods as there may be.
func TestWaterfallOfMostPeriods(t *testing.T) {
	for _, c := range []engine.Config{weeks(mostPeriods), months(mostPeriods)} {
		d := newDesk(t, c)
		last := int64(d.last(mostPeriods - 1))
		d.sign(0, row(byDay, last, 1, last))
		d.sign(7, row(byDay, last+1, 1, last+1))
		want := []int64{}
		for period := range mostPeriods {
			days := int64(d.last(period))
			if period > 0 {
				days -= int64(d.last(period - 1))
			}
			want = append(want, days)
		}
		d.falls(0, append(want, 0)...)
		for _, many := range []int{1, 117, 121} {
			d.close(many)
			d.falls(0, append(want[d.e.Ledger().Open():], 0)...)
			d.falls(7, append(want[d.e.Ledger().Open():], 1)...)
		}
		d.close(1)
		d.falls(0, 0)
		d.falls(7, 1)
	}
}

// P19.1: of months, of which each has days of its own.
func TestWaterfallOfMonths(t *testing.T) {
	d := newDesk(t, months(4))
	d.sign(0, row(byDay, 120, 1, 120))
	d.sign(1, row(byDay, 121, 1, 121))
	d.falls(0, 31, 28, 31, 30, 0)
	d.falls(1, 31, 28, 31, 30, 1)
	d.close(1)
	d.falls(0, 28, 31, 30, 0)
	d.close(2)
	d.falls(1, 30, 1)
	d.close(1)
	d.falls(1, 1)
}

// P19.1: of a calendar that doesn't begin with day 1, ahead of which something was earned already.
func TestWaterfallAheadOfPeriods(t *testing.T) {
	c := weeks(3)
	c.Calendar.First = 11 // to 38, 66, 101
	d := newDesk(t, c)
	d.sign(0, row(byDay, 101, 1, 101))
	d.sign(1, row(atOnce, 9, 10, 10))
	d.falls(0, 38, 28, 35, 0)
	d.falls(1, 9, 0, 0, 0)
	d.close(1)
	d.falls(0, 28, 35, 0)
	d.falls(1, 0, 0, 0)
}

// P19.1: contracts that begin, and that end, ahead of, in, at the last day of and behind periods.
func TestWaterfallOfDays(t *testing.T) {
	d := newDesk(t, weeks(4))
	for i, x := range []struct {
		charge, first, last int64
		want, then          []int64 // with none closed, and with one
	}{
		{280, 1, 28, []int64{280, 0, 0, 0, 0}, []int64{0, 0, 0, 0}},
		{290, 1, 29, []int64{280, 10, 0, 0, 0}, []int64{10, 0, 0, 0}},
		{280, 28, 29, []int64{140, 140, 0, 0, 0}, []int64{140, 0, 0, 0}},
		{280, 29, 29, []int64{0, 280, 0, 0, 0}, []int64{280, 0, 0, 0}},
		{280, 29, 56, []int64{0, 280, 0, 0, 0}, []int64{280, 0, 0, 0}},
		{280, 55, 58, []int64{0, 140, 140, 0, 0}, []int64{140, 140, 0, 0}},
		{280, 57, 91, []int64{0, 0, 280, 0, 0}, []int64{0, 280, 0, 0}},
		{280, 92, 119, []int64{0, 0, 0, 280, 0}, []int64{0, 0, 280, 0}},
		{290, 92, 120, []int64{0, 0, 0, 280, 10}, []int64{0, 0, 280, 10}},
		{280, 119, 146, []int64{0, 0, 0, 10, 270}, []int64{0, 0, 10, 270}},
		{280, 120, 200, []int64{0, 0, 0, 0, 280}, []int64{0, 0, 0, 280}},
		{280, 1000, 1000000, []int64{0, 0, 0, 0, 280}, []int64{0, 0, 0, 280}},
		{280, 1, 280, []int64{28, 28, 35, 28, 161}, []int64{28, 35, 28, 161}},
	} {
		d.sign(int64(i), row(byDay, x.charge, x.first, x.last))
		d.falls(i, x.want...)
		one := newDesk(t, weeks(4))
		one.sign(0, row(byDay, x.charge, x.first, x.last))
		one.close(1)
		one.falls(0, x.then...)
	}
	d.same()
}

// P19.1: contracts of a price of 0, and of the greatest one.
func TestWaterfallOfPrices(t *testing.T) {
	d := newDesk(t, weeks(2))
	d.sign(0, row(byDay, 0, 1, 56))
	d.sign(1, row(byDay, most, 1, 56))
	d.sign(2, row(atOnce, most, 57, 57))
	d.sign(3, row(atOnce, most, 28, 28), row(byDay, 0, 29, 56))
	d.falls(0, 0, 0, 0)
	d.falls(1, most/2, most/2+1, 0)
	d.falls(2, 0, 0, most)
	d.falls(3, most/2+1, most/2, 0)
	d.close(1)
	d.falls(0, 0, 0)
	d.falls(1, most/2+1, 0)
	d.falls(2, 0, most)
	d.falls(3, most/2, 0)
	d.close(1)
	for number, n := range []int64{0, 0, most, 0} {
		d.falls(number, n)
	}
}

// P19.1: obligations of each way, told and not yet told.
func TestWaterfallOfWays(t *testing.T) {
	d := newDesk(t, weeks(3))
	d.sign(0, row(atOnce, 100, 29, 80))
	d.sign(1, row(percent, 100, 1, 56))
	d.sign(2, []int64{units, 10, 100, 1, 56})
	d.sign(3, row(byDay, 91, 1, 91), row(atOnce, 91, 28, 28), row(percent, 91, 1, 1), []int64{units, 91, 91 * 91, 1, 91})
	d.falls(0, 0, 100, 0, 0)
	d.falls(1, 0, 0, 0, 100)
	d.falls(2, 0, 0, 0, 100)
	d.must(tell, 1, 0, 28, 4000)
	d.must(tell, 1, 0, 57, whole)
	d.must(tell, 2, 0, 1, 3)
	d.must(tell, 2, 0, 56, 5)
	d.must(tell, 2, 0, 92, 7)
	d.falls(1, 40, 0, 60, 0)
	d.falls(2, 30, 50, 0, 20)
	d.close(1)
	d.falls(1, 0, 60, 0)
	d.falls(2, 50, 0, 20)
	d.must(tell, 2, 0, 2, 1) // of a closed period
	d.must(tell, 1, 0, 30, 4100)
	d.falls(1, 1, 59, 0)
	d.falls(2, 60, 0, 10)
	d.close(2)
	d.falls(0, 0)
	d.falls(1, 0)
	d.falls(2, 10)
	d.same()
}

// P19.1: what was billed isn't asked.
func TestWaterfallOfBills(t *testing.T) {
	d := newDesk(t, weeks(2))
	d.sign(0, row(byDay, 100, 1, 56))
	for _, amount := range []int64{1, 49, 50, 700} {
		d.must(bill, 0, 28, amount)
		d.falls(0, 50, 50, 0)
	}
	d.close(1)
	d.must(bill, 0, 29, 5)
	d.falls(0, 50, 0)
}

// P19.1: changes onward, in the open period, behind it and dated back, up and down.
func TestWaterfallOfOnward(t *testing.T) {
	d := newDesk(t, weeks(4))
	d.sign(0, row(byDay, 119, 1, 119))
	d.must(onward, 0, 56, 63)
	d.falls(0, 28, 28, 70, 56, 0) // 126 by 63 days
	d.close(1)
	d.must(onward, 0, 91, 28)
	d.falls(0, 28, 70, 84, 0) // 84 by 28 days
	d.close(2)
	d.falls(0, 84, 0)
	d.must(onward, 0, 91, -84)
	d.falls(0, 0, 0)
	d = newDesk(t, weeks(3))
	d.sign(0, row(byDay, 56, 1, 56))
	d.close(1)
	d.must(onward, 0, 14, -42) // 14 of these were earned, and no more are
	d.falls(0, -14, 0, 0)
	d.close(1)
	d.falls(0, 0, 0)
	d.close(1)
	d.falls(0, 0)
}

// P19.1: changes from the beginning, by which the first number is below 0, and by which the price falls to 0.
func TestWaterfallOfAfresh(t *testing.T) {
	d := newDesk(t, weeks(4))
	d.sign(0, row(byDay, 119, 1, 119))
	d.close(2)
	d.falls(0, 35, 28, 0)
	d.must(afresh, 0, 10, 119)
	d.falls(0, 126, 56, 0) // 56 were recognized of 112
	d.must(afresh, 0, 10, -204)
	d.falls(0, 26-56, 8, 0) // 34 by 119 days: 16, 26 and 34
	d.must(afresh, 0, 10, -34)
	d.falls(0, -56, 0, 0)
	d.close(1)
	d.falls(0, 0, 0)
	d.must(afresh, 0, 10, 119)
	d.falls(0, 119, 0)
	d.close(1)
	d.must(afresh, 0, 10, -19)
	d.falls(0, -19) // all are closed
	d.must(afresh, 0, 10, -100)
	d.falls(0, -119)
}

// P19.1: a change behind the engine's last period, ahead of which more is earned than the price is.
func TestWaterfallOfAChangeBeyond(t *testing.T) {
	d := newDesk(t, weeks(2))
	d.sign(0, row(byDay, 100, 1, 56))
	d.must(afresh, 0, 57, -100)
	d.falls(0, 50, 50, -100)
	d.must(afresh, 0, 80, most)
	d.falls(0, 50, 50, most-100)
	d.close(2)
	d.falls(0, most-100)
	d.must(afresh, 0, 81, -most)
	d.falls(0, -100)
}

// P19.1: of the greatest price, recognized and then taken back.
func TestWaterfallOfAll(t *testing.T) {
	d := newDesk(t, weeks(3))
	d.sign(0, row(atOnce, most, 1, 1))
	d.close(1)
	d.falls(0, 0, 0, 0)
	d.must(afresh, 0, 5, -most)
	d.falls(0, -most, 0, 0)
	d.close(1)
	d.falls(0, 0, 0)
	d.must(afresh, 0, 5, most)
	d.falls(0, most, 0)
	d.close(1)
	d.must(afresh, 0, 5, -most)
	d.falls(0, -most)
}

// R3, R5: what a caller does with a waterfall changes no later one, nor the engine.
func TestWaterfallWrittenOver(t *testing.T) {
	d := newDesk(t, weeks(4))
	d.sign(0, row(byDay, 119, 1, 119))
	for range 3 {
		got, _, _ := report.Waterfall(d.e, 0)
		for i := range got {
			got[i] = -7
		}
		_ = append(got[:1], 1, 2, 3, 4, 5)
		d.falls(0, 28, 28, 35, 28, 0)
	}
	d.close(1)
	d.same()
}
