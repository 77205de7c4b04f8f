package contract_test

import (
	"math"
	"testing"

	"quitrent/api"
)

// half is a contract of obligations of these methods, each worth 60 alone, which are done by half through day 14, and whole through day 19 (but of Point, which is whole through day 10).
func half(t *testing.T, charge int64, methods ...int) *pair {
	t.Helper()
	lines := linesOf(charge, methods...)
	for i := range lines {
		if methods[i] == usage {
			lines[i].Item, lines[i].Units = little, 60
		}
	}
	p := mustSign(t, lines)
	for i, method := range methods {
		switch method {
		case milestone:
			p.must(api.OK, tell, i, 14, whole/2)
			p.must(api.OK, tell, i, 19, whole)
		case usage:
			p.must(api.OK, tell, i, 14, 30)
			p.must(api.OK, tell, i, 19, 30)
		}
	}
	return p
}

// P16.2, P16.3: days at the bounds of a change, and beyond.
func TestDaysOfChanges(t *testing.T) {
	for _, x := range changes() {
		for _, day := range []int{math.MinInt, math.MinInt32, -2, -1, 0, mostDay + 1, mostDay + 2, 1 << 32, 1<<32 + 12, math.MaxInt} {
			p := half(t, 200, ratable, usage)
			p.must(api.ErrArg, x, 0, day, 20)
			p.mustStand(200, 1, 100, 100)
		}
		for _, day := range []int{1, 2, 9, 10, 14, 18} {
			p := half(t, 200, milestone, usage)
			p.must(api.OK, x, 0, day, 20)
			p.mustStand(220, day, 110, 110)
		}
	}
	for _, day := range []int{19, 20, mostDay - 1, mostDay} {
		p := half(t, 200, ratable, usage)
		p.must(api.OK, afresh, 0, day, 20)
		p.mustStand(220, day, 110, 110)
		p = mustSign(t, linesOf(200, ratable, usage))
		p.must(api.OK, onward, 0, day, 20)
		p.mustStand(220, day, 100, 120)
	}
}

// P16.2, P16.3: a day earlier than the last change, that day, and a later one: of a contract's own day, and behind a change of each kind.
func TestDaysBesideTheLast(t *testing.T) {
	for _, x := range changes() {
		for last, days := range map[int][]int{2: {1, -1, 0}, 12: {1, 2, 9, 11}, mostDay: {1, 12, mostDay - 1}} {
			p := mustNew(t, linesOf(200, ratable, usage), nil, 0, last)
			for _, day := range days {
				want := api.ErrOrder
				if day < 1 {
					want = api.ErrArg
				}
				p.must(want, x, 0, day, 20)
				p.mustStand(200, last, 100, 100)
			}
			p.must(api.ErrArg, x, 0, mostDay+1, 20)
			p.must(api.OK, x, 0, last, 20)
			p.must(api.ErrOrder, x, 0, last-1, 20)
			p.must(api.OK, x, 0, min(last+1, mostDay), 20)
			p.must(api.OK, x, 0, mostDay, 20)
			p.same()
		}
		for _, first := range changes() {
			p := half(t, 200, milestone, usage)
			p.must(api.OK, first, 0, 13, 20)
			for _, day := range []int{1, 2, 10, 12} {
				p.must(api.ErrOrder, x, 0, day, 20)
				p.mustStand(220, 13, 110, 110)
			}
			p.must(api.OK, x, 0, 13, 20)
			p.mustStand(240, 13, 120, 120)
			p.must(api.OK, x, 0, 14, 20)
			p.mustStand(260, 14, 130, 130)
			p.must(api.ErrOrder, x, 0, 13, 20)
			p.must(api.OK, x, 0, 18, 20)
			p.mustStand(280, 18, 140, 140)
		}
	}
}

// P16.2, P16.3: the 40th change, and one more, of one kind, of the other, and of both; what is told is none.
func TestFortyChanges(t *testing.T) {
	for mix := range 4 {
		p := half(t, 200, usage, milestone)
		for n := range mostChanges {
			x := onward
			if mix == 1 || mix == 2 && n%2 == 0 || mix == 3 && n < 39 {
				x = afresh
			}
			p.must(api.OK, x, 0, 1+n/4, 2)
			p.must(api.OK, tell, 1, 20+n, whole)
		}
		p.mustStand(280, 10, 140, 140)
		for _, x := range changes() {
			p.must(api.ErrFull, x, 0, 10, 2)
			p.must(api.ErrFull, x, 0, 11, 0)
			p.must(api.ErrFull, x, 0, mostDay, -280)
			p.must(api.ErrArg, x, 0, 0, 2)
			p.must(api.ErrOrder, x, 0, 9, 2)
		}
		p.must(api.OK, tell, 1, 70, whole)
		p.same()
	}
}

// P16.2, P16.3: what is refused isn't counted as a change.
func TestRefusedIsNoChange(t *testing.T) {
	p := half(t, 200, ratable, milestone)
	for range 100 {
		for _, x := range changes() {
			p.do(x, 0, 0, 1)
			p.do(x, 0, 14, -201)
			p.do(x, 0, 14, most)
		}
		p.do(onward, 0, 19, 1)
		p.do(onward, 0, 14, -101)
	}
	p.mustStand(200, 1, 100, 100)
	for range mostChanges {
		p.must(api.OK, afresh, 0, 3, 1)
	}
	p.must(api.ErrFull, afresh, 0, 3, 1)
	p.mustStand(240, 3, 120, 120)
}

// P16.2, P16.3: the price and more up to 2^63 - 1, one more, and down to -2^63 (below it they never are, as no price is below 0).
func TestSumsOfChanges(t *testing.T) {
	for _, x := range changes() {
		for _, charge := range []int64{0, 1, 200, 1 << 62, most - 1, most} {
			for _, more := range []int64{most - charge, most - charge - 1} {
				p := mustSign(t, linesOf(charge, ratable, usage))
				p.must(api.OK, x, 0, 5, more)
				price := charge + more
				p.mustStand(price, 5, price-price/2, price/2)
			}
			for _, more := range []int64{most - charge + 1, most} {
				p := mustSign(t, linesOf(charge, ratable, usage))
				if more > most-charge && more > 0 {
					p.must(api.ErrOver, x, 0, 5, more)
				}
				p.mustStand(charge, 1, charge-charge/2, charge/2)
			}
			for _, more := range []int64{least, -charge - 1} {
				p := mustSign(t, linesOf(charge, ratable, usage))
				p.must(api.ErrArg, x, 0, 5, more)
				p.mustStand(charge, 1, charge-charge/2, charge/2)
			}
			p := mustSign(t, linesOf(charge, ratable, usage))
			p.must(api.OK, x, 0, 5, -charge)
			p.mustStand(0, 5, 0, 0)
		}
	}
}

// P16.2, P16.3: which error comes first, where more than one would fit.
func TestErrorsOfChangesInOrder(t *testing.T) {
	full := half(t, most-1, ratable, usage)
	for range mostChanges {
		full.must(api.OK, afresh, 0, 15, 0)
	}
	p := half(t, most-1, ratable, usage)
	p.must(api.OK, afresh, 0, 15, 0)
	for _, x := range changes() {
		for _, q := range []*pair{p, full} {
			for _, more := range []int64{2, least, 0} {
				q.must(api.ErrArg, x, 0, 0, more)
				q.must(api.ErrArg, x, 0, mostDay+1, more)
				q.must(api.ErrOrder, x, 0, 1, more)
				q.must(api.ErrOrder, x, 0, 14, more)
			}
		}
		for _, day := range []int{15, 19, mostDay} {
			full.must(api.ErrFull, x, 0, day, 2)
			full.must(api.ErrFull, x, 0, day, least)
			p.must(api.ErrOver, x, 0, day, 2)
			p.must(api.ErrOver, x, 0, day, most)
			p.must(api.ErrArg, x, 0, day, -most)
		}
	}
	p.must(api.ErrArg, onward, 0, 19, 0)
	p.must(api.ErrArg, onward, 0, 19, 1)
	p.mustStand(most-1, 15, 1<<62-1, 1<<62-1)
}

// P16.2, P16.3: one kind behind the other, of one day.
func TestOneBehindTheOther(t *testing.T) {
	p := half(t, 200, ratable, usage)
	p.must(api.OK, afresh, 0, 14, 100)
	p.mustStand(300, 14, 150, 150)
	p.mustEarn(13, 40, 0)
	p.mustEarn(14, 75, 75)
	p.must(api.OK, onward, 0, 14, 50)
	p.mustStand(350, 14, 175, 175)
	p.mustEarn(14, 75, 75)
	p.mustEarn(16, 115, 75)
	p.mustEarn(19, 175, 175)
	p.must(api.OK, afresh, 0, 14, -250)
	p.mustStand(100, 14, 50, 50)
	p.mustEarn(13, 40, 0)
	p.mustEarn(14, 25, 25)
	p.mustEarn(16, 35, 25)
	p.mustEarn(19, 50, 50)
	p.must(api.OK, onward, 0, 14, -50)
	p.mustStand(50, 14, 25, 25)
	p.mustEarn(14, 25, 25)
	p.mustEarn(19, 25, 25)
	p.must(api.OK, onward, 0, 14, 11)
	p.mustStand(61, 14, 31, 30)
	p.mustEarn(19, 31, 30)
}

// P16.2, P16.3: one kind behind the other, of several days; ahead of the last change all stays.
func TestOneBehindTheOtherLater(t *testing.T) {
	p := half(t, 200, ratable, usage)
	p.must(api.OK, onward, 0, 12, 140)
	p.mustStand(340, 12, 185, 155)
	p.mustEarn(12, 30, 0)
	p.mustEarn(14, 74, 77)
	p.must(api.OK, afresh, 0, 14, -140)
	p.mustStand(200, 14, 100, 100)
	p.mustEarn(12, 30, 0)
	p.mustEarn(13, 52, 0)
	p.mustEarn(14, 50, 50)
	p.must(api.OK, onward, 0, 16, 80)
	p.mustStand(280, 16, 150, 130)
	p.mustEarn(13, 52, 0)
	p.mustEarn(15, 60, 50)
	p.mustEarn(16, 70, 50)
	p.mustEarn(18, 123, 50)
	p.mustEarn(19, 150, 130)
	p.must(api.OK, afresh, 0, 19, -270)
	p.mustStand(10, 19, 5, 5)
	p.mustEarn(12, 30, 0)
	p.mustEarn(13, 52, 0)
	p.mustEarn(15, 60, 50)
	p.mustEarn(18, 123, 50)
	p.mustEarn(19, 5, 5)
	p.must(api.ErrArg, onward, 0, 19, 10)
}

// P16.1 to P16.3: what is told ahead of a change, of its day and behind it, once it is there.
func TestToldBesideChanges(t *testing.T) {
	// Onward: what was earned stays, and is less of the rest, of what is told ahead of the change.
	p := mustSign(t, linesOf(200, ratable, milestone))
	p.must(api.OK, tell, 1, 12, 2000)
	p.must(api.OK, onward, 0, 14, 65)
	p.mustStand(265, 14, 148, 117)
	p.must(api.OK, tell, 1, 13, 5000)
	p.mustEarn(12, 30, 20)
	p.mustEarn(13, 40, 50)
	p.mustEarn(14, 50, 20)
	p.must(api.OK, tell, 1, 14, 6000)
	p.mustEarn(14, 50, 20)
	p.must(api.OK, tell, 1, 15, 7000)
	p.mustEarn(15, 69, 44)
	p.must(api.OK, tell, 1, 16, whole)
	p.mustEarn(16, 89, 117)
	p.mustStand(265, 14, 148, 117)
	// Afresh: all is as if it had been from the beginning.
	p = mustSign(t, linesOf(200, ratable, milestone))
	p.must(api.OK, tell, 1, 12, 2000)
	p.must(api.OK, afresh, 0, 14, 100)
	p.must(api.OK, tell, 1, 13, 5000)
	p.mustEarn(13, 40, 50)
	p.mustEarn(14, 75, 75)
	p.must(api.OK, tell, 1, 14, 6000)
	p.mustEarn(14, 75, 90)
	p.must(api.OK, tell, 1, 15, whole)
	p.mustEarn(15, 90, 150)
	p.mustStand(300, 14, 150, 150)
}

// P16.1: what all earned through days ahead of the last change, also where that was more than the price is, and through far ones.
func TestAllAheadOfTheLast(t *testing.T) {
	p := half(t, most, point, point)
	p.must(api.OK, afresh, 0, 12, 1-most)
	p.mustStand(1, 12, 1, 0)
	for day, want := range map[int]int64{math.MinInt: 0, -1: 0, 0: 0, 9: 0, 10: most, 11: most, 12: 1, 13: 1, mostDay: 1, math.MaxInt: 1} {
		if got := p.c.All(day); got != want {
			t.Fatalf("All through %d: %d, not %d", day, got, want)
		}
	}
	p.must(api.OK, afresh, 0, 14, most-1)
	p.mustStand(most, 14, 1<<62, 1<<62-1)
	for day, want := range map[int]int64{math.MinInt: 0, 9: 0, 10: most, 11: most, 12: 1, 13: 1, 14: most, math.MaxInt: most} {
		if got := p.c.All(day); got != want {
			t.Fatalf("All through %d: %d, not %d", day, got, want)
		}
	}
	// A change of a day ahead of all that is done.
	p = half(t, 200, ratable, usage)
	p.must(api.OK, afresh, 0, 1, 100)
	p.mustEarn(0, 0, 0)
	p.mustEarn(9, 0, 0)
	p.mustEarn(10, 15, 0)
	p.mustEarn(14, 75, 75)
	p.mustEarn(mostDay, 150, 150)
	p.same()
}
