package done_test

import (
	"math"
	"testing"

	"quitrent/api"
)

// P14.3: of Ratable, each day of short and of long ones, counted by walking; through the day ahead of First, First, Last and the day behind.
func TestRatable(t *testing.T) {
	for _, x := range [][2]int{{1, 1}, {1, 2}, {1, 10}, {10, 10}, {10, 11}, {10, 19}, {2, 366}, {mostDay, mostDay}, {mostDay - 1, mostDay}, {mostDay - 9, mostDay}} {
		first, last := x[0], x[1]
		p := newPair(t, fromTo(ratable, first, last))
		all, up := int64(last-first+1), int64(0)
		for day := first - 5; day <= last+5; day++ {
			if day >= first && day <= last {
				up++
			}
			p.mustDone(up, all, day)
		}
		p.mustDone(0, all, first-1)
		p.mustDone(1, all, first)
		p.mustDone(all, all, last)
		p.mustDone(all, all, last+1)
		p.same()
	}
	p := newPair(t, fromTo(ratable, 1, mostDay))
	for day, want := range map[int]int64{math.MinInt: 0, -1: 0, 0: 0, 1: 1, 2: 2, mostDay - 1: mostDay - 1, mostDay: mostDay, mostDay + 1: mostDay, math.MaxInt: mostDay} {
		p.mustDone(want, mostDay, day)
	}
}

// P14.3: of Point 1 of 1 from First on, whatever Last is.
func TestPoint(t *testing.T) {
	for _, x := range [][2]int{{1, 1}, {1, mostDay}, {10, 10}, {10, 11}, {10, 19}, {mostDay, mostDay}} {
		p := newPair(t, fromTo(point, x[0], x[1]))
		for _, day := range []int{math.MinInt, math.MinInt32, -1, 0, x[0] - 2, x[0] - 1} {
			if day < x[0] {
				p.mustDone(0, 1, day)
			}
		}
		for _, day := range []int{x[0], x[0] + 1, x[1], x[1] + 1, mostDay, mostDay + 1, math.MaxInt} {
			p.mustDone(1, 1, day)
		}
		p.same()
	}
}

// P14.3: of Milestone, a day ahead of all, of the first, between, of the last and behind all.
func TestMilestoneThrough(t *testing.T) {
	p := newPair(t, owed(milestone))
	p.must(api.OK, 5, 1)
	p.must(api.OK, mostDay, whole)
	p.must(api.OK, 50, 4000)
	p.must(api.OK, 70, 4000)
	for day, want := range map[int]int64{math.MinInt: 0, -1: 0, 0: 0, 1: 0, 4: 0, 5: 1, 6: 1, 49: 1, 50: 4000, 51: 4000, 69: 4000, 70: 4000, 71: 4000, mostDay - 1: 4000, mostDay: whole, mostDay + 1: whole, math.MaxInt: whole} {
		p.mustDone(want, whole, day)
	}
	p.same()
	for _, n := range []int64{1, 2, whole - 1, whole} {
		for _, day := range []int{1, 2, 15, mostDay - 1, mostDay} {
			p := newPair(t, owed(milestone))
			p.must(api.OK, day, n)
			p.mustDone(0, whole, day-1)
			p.mustDone(n, whole, day)
			p.mustDone(n, whole, day+1)
			p.same()
		}
	}
}

// P14.3: of Usage, a day ahead of all, of the first, between, of the last and behind all; together less than, as much as and more than the Units.
func TestUsageThrough(t *testing.T) {
	p := newPair(t, owed(usage))
	p.must(api.OK, 50, 20)
	p.must(api.OK, 5, 1)
	p.must(api.OK, 70, 78)
	p.must(api.OK, 50, 1)
	p.must(api.OK, mostDay, 30)
	for day, want := range map[int]int64{math.MinInt: 0, -1: 0, 0: 0, 1: 0, 4: 0, 5: 1, 6: 1, 49: 1, 50: 22, 51: 22, 69: 22, 70: 100, 71: 100, mostDay - 1: 100, mostDay: 100, mostDay + 1: 100, math.MaxInt: 100} {
		p.mustDone(want, 100, day)
	}
	p.same()
	for _, units := range []int64{1, 2, 3, 100, whole, most - 1, most} {
		for _, n := range []int64{1, 2, 3, 99, 100, 101, most - 1, most} {
			for _, day := range []int{1, 15, mostDay} {
				p := newPair(t, ofUnits(units))
				p.must(api.OK, day, n)
				p.mustDone(0, units, day-1)
				p.mustDone(min(n, units), units, day)
				p.mustDone(min(n, units), units, math.MaxInt)
			}
		}
	}
}

// P14.3: of Usage, units that are reached one by one, and gone past.
func TestUsageOneByOne(t *testing.T) {
	for _, units := range []int64{1, 2, 50, mostTold - 1, mostTold, mostTold + 1} {
		p := newPair(t, ofUnits(units))
		for day := 1; day <= mostTold; day++ {
			p.must(api.OK, day, 1)
			p.mustDone(min(int64(day), units), units, day)
			p.mustDone(min(int64(day-1), units), units, day-1)
		}
		p.same()
	}
}

// P14.3: of Milestone and of Usage First and Last don't count, nor does what is told of days beside them.
func TestFirstAndLastDoNotCount(t *testing.T) {
	for _, method := range []int{milestone, usage} {
		for _, x := range [][2]int{{1, 1}, {1, mostDay}, {15, 15}, {16, 20}, {10, 14}, {mostDay, mostDay}} {
			p := newPair(t, fromTo(method, x[0], x[1]))
			p.must(api.OK, 15, 40)
			_, of := p.mustBe(15)
			p.mustDone(0, of, 14)
			p.mustDone(40, of, 15)
			p.mustDone(40, of, mostDay)
		}
	}
}

// P14.3: units don't count but of Usage.
func TestUnitsDoNotCount(t *testing.T) {
	for _, units := range []int64{1, 2, whole + 1, most} {
		for method, want := range map[int][2]int64{ratable: {6, 10}, point: {1, 1}, milestone: {70, whole}} {
			d := owed(method)
			d.Units = units
			p := newPair(t, d)
			if method == milestone {
				p.must(api.OK, 15, 70)
			}
			p.mustDone(want[0], want[1], 15)
			p.same()
		}
	}
}

// P14.3, R5: what is asked changes nothing: asked again, and in another order, the same is answered.
func TestAskedAgain(t *testing.T) {
	for _, method := range methods() {
		p := newPair(t, owed(method))
		tellSome(p)
		days := p.asked()
		for i := range days {
			p.mustBe(days[len(days)-1-i])
			p.mustBe(days[i])
			p.mustBe(days[i])
		}
		p.same()
	}
}
