package track_test

import (
	"math"
	"testing"

	"quitrent/api"
)

// P15.1: of Ratable: far days, 0, ahead of the first day, of it, between, of the last one and behind.
func TestEarnedByDays(t *testing.T) {
	newPair(t, owed(ratable), 100).mustEarnAll(map[int]int64{
		math.MinInt: 0, -mostDay: 0, -1: 0, 0: 0, 1: 0, 8: 0, 9: 0, 10: 10, 11: 20, 14: 50, 15: 60, 18: 90, 19: 100, 20: 100,
		mostDay: 100, mostDay + 1: 100, math.MaxInt: 100,
	})
	// The part is the greatest whole number that is no more than the exact one.
	newPair(t, owed(ratable), 7).mustEarnAll(map[int]int64{9: 0, 10: 0, 11: 1, 12: 2, 13: 2, 14: 3, 15: 4, 16: 4, 17: 5, 18: 6, 19: 7, 20: 7})
	newPair(t, owed(ratable), 1).mustEarnAll(map[int]int64{9: 0, 10: 0, 18: 0, 19: 1, 20: 1})
	newPair(t, owed(ratable), 0).mustEarnAll(map[int]int64{math.MinInt: 0, 9: 0, 10: 0, 19: 0, math.MaxInt: 0})
	newPair(t, owed(ratable), most).mustEarnAll(map[int]int64{9: 0, 10: 922337203685477580, 14: 4611686018427387903, 18: 8301034833169298226, 19: most, math.MaxInt: most})
	d := owed(ratable)
	d.First, d.Last = 1, mostDay
	newPair(t, d, most).mustEarnAll(map[int]int64{0: 0, 1: 9223372036854, 2: 18446744073709, 500000: 4611686018427387903, mostDay - 1: 9223362813482738952, mostDay: most})
	d.First, d.Last = 15, 15
	newPair(t, d, 100).mustEarnAll(map[int]int64{0: 0, 14: 0, 15: 100, 16: 100})
}

// P15.1: of Point all, from the first day on.
func TestEarnedAtOnce(t *testing.T) {
	for _, allotted := range []int64{0, 1, 100, most} {
		newPair(t, owed(point), allotted).mustEarnAll(map[int]int64{
			math.MinInt: 0, -1: 0, 0: 0, 9: 0, 10: allotted, 11: allotted, 19: allotted, 20: allotted, mostDay: allotted, math.MaxInt: allotted,
		})
	}
}

// P15.1: of Milestone by percents that are told.
func TestEarnedByPercents(t *testing.T) {
	p := newPair(t, owed(milestone), 50)
	p.mustEarnAll(map[int]int64{0: 0, 10: 0, 19: 0, mostDay: 0})
	p.must(api.OK, tell, 12, 4000)
	p.mustEarnAll(map[int]int64{math.MinInt: 0, 0: 0, 11: 0, 12: 20, 13: 20, 19: 20, math.MaxInt: 20})
	p.must(api.OK, tell, 30, whole)
	p.must(api.OK, tell, 5, 199)
	p.must(api.OK, tell, 20, 9999)
	p.mustEarnAll(map[int]int64{4: 0, 5: 0, 11: 0, 12: 20, 19: 20, 20: 49, 29: 49, 30: 50, 31: 50, math.MaxInt: 50})
	p = newPair(t, owed(milestone), most)
	p.must(api.OK, tell, 1, 1)
	p.must(api.OK, tell, mostDay, whole)
	p.mustEarnAll(map[int]int64{0: 0, 1: 922337203685477, mostDay - 1: 922337203685477, mostDay: most})
}

// P15.1: of Usage by units that are told, and no more than all of them.
func TestEarnedByUnits(t *testing.T) {
	p := newPair(t, owed(usage), 1000)
	p.mustEarnAll(map[int]int64{0: 0, 10: 0, 19: 0, mostDay: 0})
	p.must(api.OK, tell, 12, 30)
	p.must(api.OK, tell, 5, 1)
	p.must(api.OK, tell, 12, 10)
	p.mustEarnAll(map[int]int64{math.MinInt: 0, 4: 0, 5: 10, 11: 10, 12: 410, 13: 410, math.MaxInt: 410})
	p.must(api.OK, tell, 20, 58)
	p.mustEarnAll(map[int]int64{19: 410, 20: 990, 21: 990})
	p.must(api.OK, tell, 30, 70)
	p.mustEarnAll(map[int]int64{29: 990, 30: 1000, mostDay: 1000})
	d := owed(usage)
	d.Units = most
	p = newPair(t, d, most)
	p.must(api.OK, tell, 5, 1)
	p.must(api.OK, tell, 7, most-2)
	p.mustEarnAll(map[int]int64{4: 0, 5: 1, 6: 1, 7: most - 1})
	p.must(api.OK, tell, 6, 1)
	p.mustEarnAll(map[int]int64{5: 1, 6: 2, 7: most})
}

// mustBeWhole holds that the whole is done through a day, and not ahead of it.
func mustBeWhole(p *pair, from int) {
	p.t.Helper()
	for _, day := range append(farDays(), from-1, from, from+1) {
		if got := p.k.Whole(day); got != (day >= from) {
			p.t.Fatalf("Whole through %d, of %v: %t", day, p.m.log.Duty(), got)
		}
	}
	p.same()
}

// P15.1: Whole ahead of, at and behind the day on which the whole is done, whatever is allotted.
func TestWhole(t *testing.T) {
	for _, allotted := range []int64{0, 1, 100, most} {
		for method, from := range map[int]int{ratable: 19, point: 10, milestone: 19, usage: 19} {
			p := half(t, method, allotted)
			mustBeWhole(p, from)
			p.must(api.OK, onward, 12, most)
			p.must(api.OK, afresh, 15, 0)
			p.must(api.OK, onward, 25, 3)
			mustBeWhole(p, from)
		}
		for _, method := range []int{milestone, usage} {
			p := newPair(t, owed(method), allotted)
			for _, day := range farDays() {
				if p.k.Whole(day) {
					t.Fatalf("of %v nothing was told, and through %d it is whole", owed(method), day)
				}
			}
		}
	}
	p := newPair(t, owed(milestone), 100)
	p.must(api.OK, tell, 15, whole-1)
	p.must(api.OK, tell, 30, whole)
	mustBeWhole(p, 30)
	p.must(api.OK, tell, 20, whole)
	mustBeWhole(p, 20)
	p = newPair(t, owed(usage), 100)
	p.must(api.OK, tell, 15, 99)
	if p.k.Whole(math.MaxInt) {
		t.Fatal("whole by 99 of 100 units")
	}
	p.must(api.OK, tell, 30, 5)
	mustBeWhole(p, 30)
	p.must(api.OK, tell, 7, 1)
	mustBeWhole(p, 15)
}

// P15.1: what is asked changes nothing: asked again, and in another order, the same is answered.
func TestAskedAgain(t *testing.T) {
	for _, method := range methods() {
		p := half(t, method, 100)
		changeAll(p)
		days := p.asked()
		for i := range days {
			p.mustEarn(p.m.earned(days[len(days)-1-i]), days[len(days)-1-i])
			p.mustEarn(p.m.earned(days[i]), days[i])
			p.mustEarn(p.m.earned(days[i]), days[i])
		}
		p.same()
	}
}
