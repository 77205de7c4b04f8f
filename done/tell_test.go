package done_test

import (
	"math"
	"testing"

	"quitrent/api"
)

// wrongDays are days of which nothing is told.
func wrongDays() []int {
	return []int{0, -1, -2, -mostDay, mostDay + 1, mostDay + 2, 2 * mostDay, 1 << 32, 1<<32 + 12, math.MinInt, math.MinInt + 12, math.MaxInt}
}

// P14.2: ordinary: percents that rise, and units.
func TestTellOrdinary(t *testing.T) {
	p := newPair(t, owed(milestone))
	p.must(api.OK, 12, 2500)
	p.must(api.OK, 30, 9000)
	p.must(api.OK, 20, 4000)
	p.mustDone(2500, whole, 19)
	p.mustDone(4000, whole, 29)
	p.mustDone(9000, whole, 30)
	p.same()
	p = newPair(t, owed(usage))
	p.must(api.OK, 12, 30)
	p.must(api.OK, 30, 50)
	p.must(api.OK, 20, 10)
	p.mustDone(30, 100, 19)
	p.mustDone(40, 100, 29)
	p.mustDone(90, 100, 30)
	p.same()
}

// P14.2: of Ratable and of Point nothing is told.
func TestNothingIsTold(t *testing.T) {
	for _, method := range []int{ratable, point} {
		p := newPair(t, owed(method))
		for _, day := range append(wrongDays(), 1, 9, 10, 15, 19, 20, mostDay) {
			for _, n := range []int64{math.MinInt64, -1, 0, 1, 50, 100, whole, whole + 1, most} {
				p.must(api.ErrArg, day, n)
			}
		}
		for day := 1; day <= mostTold+5; day++ {
			p.must(api.ErrArg, day, int64(day))
		}
	}
}

// P14.2: each day and number at their bounds, and beyond, to a new log and to one that was told something.
func TestDaysAndNumbers(t *testing.T) {
	numbers := []int64{math.MinInt64, -whole, -1, 0, 1, 2, whole - 1, whole, whole + 1, 1 << 32, 1<<32 + 5, most - 1, most}
	for _, method := range []int{milestone, usage} {
		for _, day := range append(wrongDays(), 1, 2, 9, 10, 500, mostDay-1, mostDay) {
			for _, n := range numbers {
				want := api.OK
				if day < 1 || day > mostDay || n < 1 || method == milestone && n > whole {
					want = api.ErrArg
				}
				newPair(t, owed(method)).must(want, day, n)
				p := newPair(t, owed(method))
				p.must(api.OK, 500, 5)
				p.tell(day, n)
				p.same()
			}
		}
	}
}

// P14.2: days don't hang on an obligation's First and Last.
func TestDaysBesideFirstAndLast(t *testing.T) {
	for _, method := range []int{milestone, usage} {
		p := newPair(t, fromTo(method, 500, 500))
		p.must(api.OK, 1, 1)
		p.must(api.OK, 499, 2)
		p.must(api.OK, 501, 3)
		p.must(api.OK, mostDay, 4)
		p.same()
	}
}

// P14.2: of Milestone a day is told once, with the same number and with others.
func TestMilestoneTwice(t *testing.T) {
	for _, first := range []int64{1, 2, 4000, whole - 1, whole} {
		for _, day := range []int{1, 2, 15, mostDay - 1, mostDay} {
			p := newPair(t, owed(milestone))
			p.must(api.OK, day, first)
			for _, n := range []int64{1, 2, first, 4000, whole - 1, whole} {
				p.must(api.ErrTwice, day, n)
			}
			p.must(api.ErrArg, day, 0)
			p.must(api.ErrArg, day, whole+1)
			if p.l.Many() != 1 {
				t.Fatalf("Many: %d", p.l.Many())
			}
		}
	}
}

// P14.2: of Milestone, a number as great as, less and greater than one of a day ahead, and of one behind.
func TestMilestoneOrder(t *testing.T) {
	for _, x := range []struct {
		day  int
		n    int64
		want api.Errno
	}{
		{19, 3999, api.OK}, {19, 4000, api.OK}, {19, 4001, api.ErrOrder}, {1, 1, api.OK}, {1, whole, api.ErrOrder},
		{21, 3999, api.ErrOrder}, {21, 4000, api.OK}, {21, 4001, api.OK}, {mostDay, 1, api.ErrOrder}, {mostDay, whole, api.OK},
		{20, 3999, api.ErrTwice}, {20, 4000, api.ErrTwice}, {20, 4001, api.ErrTwice},
	} {
		p := newPair(t, owed(milestone))
		p.must(api.OK, 20, 4000)
		p.must(x.want, x.day, x.n)
		p.same()
	}
}

// P14.2: of Milestone, between two that were told in either order, beside both, and where one of them alone would refuse.
func TestMilestoneBetween(t *testing.T) {
	for _, turned := range []bool{false, true} {
		twoTold := func() *pair {
			p := newPair(t, owed(milestone))
			if turned {
				p.must(api.OK, 30, 6000)
				p.must(api.OK, 20, 4000)
			} else {
				p.must(api.OK, 20, 4000)
				p.must(api.OK, 30, 6000)
			}
			return p
		}
		for _, day := range []int{1, 19, 21, 25, 29, 31, mostDay} {
			for _, n := range []int64{1, 3999, 4000, 4001, 5000, 5999, 6000, 6001, whole} {
				want := api.OK
				switch {
				case day < 20 && n > 4000, day > 20 && day < 30 && (n < 4000 || n > 6000), day > 30 && n < 6000:
					want = api.ErrOrder
				}
				twoTold().must(want, day, n)
			}
		}
		for _, n := range []int64{1, 4000, 6000, whole} {
			p := twoTold()
			p.must(api.ErrTwice, 20, n)
			p.must(api.ErrTwice, 30, n)
		}
	}
}

// P14.2: of Usage the same day told twice, and more often, counts each time, and greater ones may be ahead of less.
func TestUsageTwice(t *testing.T) {
	p := newPair(t, owed(usage))
	for i, n := range []int64{5, 5, 20, 1, 5} {
		p.must(api.OK, 15, n)
		p.same()
		if p.l.Many() != i+1 {
			t.Fatalf("Many: %d, not %d", p.l.Many(), i+1)
		}
	}
	p.mustDone(0, 100, 14)
	p.mustDone(36, 100, 15)
	p.must(api.OK, 14, 30)
	p.must(api.OK, 16, 1)
	p.must(api.OK, 1, most-67)
	p.must(api.ErrOver, 1, 1)
	p.same()
}

// P14.2: of Usage, numbers that are together the greatest amount, and one more, of one day or of several, told in any order.
func TestUsageOver(t *testing.T) {
	half := int64(1) << 62
	for _, days := range [][]int{{15, 15, 15}, {1, 2, 3}, {3, 2, 1}, {2, 3, 1}, {mostDay, 1, mostDay}} {
		for _, numbers := range [][]int64{{most}, {most - 1, 1}, {1, most - 1}, {half, half - 1}, {half - 1, half}, {most - 2, 1, 1}, {1, most - 2, 1}} {
			for _, units := range []int64{1, 100, most - 1, most} {
				p := newPair(t, ofUnits(units))
				for i, n := range numbers {
					p.must(api.OK, days[i], n)
				}
				for _, day := range days {
					p.must(api.ErrOver, day, 1)
					p.must(api.ErrOver, day, 2)
					p.must(api.ErrOver, day, half)
					p.must(api.ErrOver, day, most)
				}
				p.must(api.ErrOver, mostDay, 1)
				p.must(api.ErrOver, 1, 1)
				p.mustDone(units, units, mostDay)
			}
		}
	}
	// One that is too great is refused, and a lesser one told still, up to the last unit.
	p := newPair(t, ofUnits(most))
	p.must(api.OK, 15, half)
	p.must(api.ErrOver, 15, half)
	p.must(api.ErrOver, 3, most)
	p.must(api.OK, 3, half-2)
	p.must(api.ErrOver, 1, 2)
	p.must(api.OK, 1, 1)
	p.must(api.ErrOver, 1, 1)
	p.mustDone(most, most, 15)
}

// P14.2: as many told as Most, and one more, in rising, falling and mixed order of days.
func TestFull(t *testing.T) {
	orders := []func(i int) int{
		func(i int) int { return i + 1 },
		func(i int) int { return mostTold - i },
		func(i int) int { return i*77%mostTold + 1 },
	}
	for _, order := range orders {
		for _, method := range []int{milestone, usage} {
			p := newPair(t, ofUnits(most))
			if method == milestone {
				p = newPair(t, owed(method))
			}
			for i := range mostTold {
				day := order(i)
				p.must(api.OK, 10*day, int64(7*day))
			}
			p.same()
			for _, x := range []told{{5, 1}, {1, 1}, {15, 10}, {2005, whole}, {mostDay, whole}} {
				p.must(api.ErrFull, x.day, x.n)
			}
			if p.l.Many() != mostTold {
				t.Fatalf("Many: %d", p.l.Many())
			}
		}
	}
}

// P14.2: Most of the same day, of Usage, and as great as may be, together.
func TestFullOfOneDay(t *testing.T) {
	p := newPair(t, ofUnits(most))
	for range mostTold - 1 {
		p.must(api.OK, 15, most/mostTold)
	}
	p.must(api.ErrOver, 15, most)
	left := int64(most - (mostTold-1)*(most/mostTold))
	p.must(api.ErrOver, 15, left+1)
	p.must(api.OK, 15, left)
	p.mustDone(most, most, 15)
	p.must(api.ErrFull, 15, 1)
	p.must(api.ErrFull, 15, most)
}

// P14.2, R2: which error comes first, where more than one would fit.
func TestErrorsInOrder(t *testing.T) {
	// Of Milestone, full: ErrArg, ErrTwice, ErrOrder, ErrFull.
	p := newPair(t, owed(milestone))
	for i := range mostTold {
		p.must(api.OK, 10+2*i, int64(20+i))
	}
	p.must(api.ErrArg, 10, 0)
	p.must(api.ErrArg, 10, whole+1)
	p.must(api.ErrArg, 9, whole+1)
	p.must(api.ErrArg, 0, whole)
	p.must(api.ErrArg, mostDay+1, 1)
	p.must(api.ErrTwice, 10, 20)
	p.must(api.ErrTwice, 10, whole) // more than of a day behind
	p.must(api.ErrTwice, 12, 1)     // less than of a day ahead
	p.must(api.ErrTwice, 10+2*(mostTold-1), 1)
	p.must(api.ErrOrder, 9, whole)
	p.must(api.ErrOrder, 11, 19)
	p.must(api.ErrOrder, 11, 22)
	p.must(api.ErrOrder, mostDay, 1)
	p.must(api.ErrFull, 9, 20)
	p.must(api.ErrFull, 11, 20)
	p.must(api.ErrFull, 11, 21)
	p.must(api.ErrFull, mostDay, whole)
	// Of Milestone, with room: a day that was told is named ahead of the order, whichever was told first.
	for _, l := range [][]told{{{20, 4000}, {30, 6000}}, {{30, 6000}, {20, 4000}}} {
		p = newPair(t, owed(milestone))
		p.must(api.OK, l[0].day, l[0].n)
		p.must(api.OK, l[1].day, l[1].n)
		p.must(api.ErrTwice, 20, 6001)
		p.must(api.ErrTwice, 30, 3999)
		p.must(api.ErrArg, 20, whole+1)
		p.must(api.ErrArg, 30, 0)
	}
	// Of Usage, full: ErrArg, ErrFull, ErrOver.
	p = newPair(t, ofUnits(5))
	p.must(api.OK, 15, most-mostTold)
	p.must(api.ErrOver, 15, mostTold+1)
	p.must(api.ErrArg, 0, mostTold+1)
	p.must(api.ErrArg, mostDay+1, most)
	for range mostTold - 1 {
		p.must(api.OK, 15, 1)
	}
	p.must(api.ErrFull, 15, 1)
	p.must(api.ErrFull, 15, 2)
	p.must(api.ErrFull, 15, most)
	p.must(api.ErrArg, 15, 0)
	p.must(api.ErrArg, 15, math.MinInt64)
	p.must(api.ErrArg, 0, most)
	p.must(api.ErrArg, mostDay+1, most)
}
