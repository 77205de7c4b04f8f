package track_test

import (
	"testing"

	"quitrent/api"
)

// told40 is a track by 100 units of which 40 were told of day 5, and whose allotment, 100 at first, was changed to 200 at day 10.
func told40(t *testing.T, c call) *pair {
	t.Helper()
	p := newPair(t, owed(usage), 100)
	p.must(api.OK, tell, 5, 40)
	p.must(api.OK, c, 10, 200)
	return p
}

// P15.1, P15.2: what is told behind the change: Onward by what was left to do then, Afresh by all.
func TestToldBehind(t *testing.T) {
	p := told40(t, onward)
	p.mustEarnAll(map[int]int64{4: 0, 5: 40, 9: 40, 10: 40, 11: 40, mostDay: 40})
	p.must(api.OK, tell, 12, 20)
	p.mustEarnAll(map[int]int64{9: 40, 10: 40, 11: 40, 12: 93, 13: 93})
	p.must(api.OK, tell, 11, 10)
	p.mustEarnAll(map[int]int64{10: 40, 11: 66, 12: 120})
	p.must(api.OK, tell, 20, 30)
	p.mustEarnAll(map[int]int64{9: 40, 10: 40, 19: 120, 20: 200})
	p = told40(t, afresh)
	p.mustEarnAll(map[int]int64{4: 0, 5: 40, 9: 40, 10: 80, 11: 80, mostDay: 80})
	p.must(api.OK, tell, 12, 20)
	p.mustEarnAll(map[int]int64{9: 40, 10: 80, 11: 80, 12: 120, 13: 120})
}

// P15.1, P15.2: what is told of the change's own day, after the change: it is done through the Origin of Onward, whose Base stays.
func TestToldOfItsDay(t *testing.T) {
	p := told40(t, onward)
	p.must(api.OK, tell, 10, 20)
	p.mustEarnAll(map[int]int64{5: 40, 9: 40, 10: 40, 11: 40})
	p.must(api.OK, tell, 12, 20)
	p.mustEarnAll(map[int]int64{9: 40, 10: 40, 11: 40, 12: 120})
	p = told40(t, afresh)
	p.must(api.OK, tell, 10, 20)
	p.mustEarnAll(map[int]int64{5: 40, 9: 40, 10: 120, 11: 120})
}

// P15.1, P15.2: what is told of a day ahead of the change, after it: of that day the span ahead tells more, the Base of Onward stays, and less is left to do behind it.
func TestToldAhead(t *testing.T) {
	p := told40(t, onward)
	p.must(api.OK, tell, 7, 20)
	p.mustEarnAll(map[int]int64{5: 40, 6: 40, 7: 60, 9: 60, 10: 40, 11: 40})
	p.must(api.OK, tell, 12, 20)
	p.mustEarnAll(map[int]int64{9: 60, 10: 40, 12: 120})
	p.must(api.OK, onward, 12, 120)
	p.must(api.OK, tell, 12, 15)
	p.must(api.OK, afresh, 13, 400)
	p.mustEarnAll(map[int]int64{9: 60, 10: 40, 11: 40, 12: 120, 13: 380})
	p = told40(t, afresh)
	p.must(api.OK, tell, 7, 20)
	p.mustEarnAll(map[int]int64{5: 40, 6: 40, 7: 60, 9: 60, 10: 120, 11: 120})
}

// P15.1, P15.2: all of Rest counts where what is told, after the change, makes the whole done through its Origin.
func TestToldUntilTheOriginIsWhole(t *testing.T) {
	for _, day := range []int{1, 5, 7, 9, 10} {
		for _, n := range []int64{60, 61, most - 70} {
			p := told40(t, onward)
			p.must(api.OK, tell, 12, 30) // counts for nothing in the end
			p.must(api.OK, tell, day, n)
			p.mustEarnAll(map[int]int64{10: 200, 11: 200, 12: 200, mostDay: 200})
			if day < 10 {
				p.mustEarn(100, 9)
			}
			p.must(api.ErrArg, onward, 10, 199)
			p.must(api.OK, onward, 10, 300)
			p.mustEarnAll(map[int]int64{10: 300, 11: 300, mostDay: 300})
		}
	}
	p := newPair(t, owed(milestone), 100)
	p.must(api.OK, tell, 5, 4000)
	p.must(api.OK, onward, 10, 200)
	p.must(api.OK, tell, 12, whole)
	p.mustEarnAll(map[int]int64{9: 40, 10: 40, 11: 40, 12: 200})
	p.must(api.OK, tell, 10, whole-1)
	p.mustEarnAll(map[int]int64{9: 40, 10: 40, 11: 40, 12: 200})
	p.must(api.OK, tell, 8, 9000)
	p.mustEarnAll(map[int]int64{7: 40, 8: 90, 9: 90, 10: 40, 11: 40, 12: 200})
	p = newPair(t, owed(milestone), 100)
	p.must(api.OK, onward, 10, 200)
	p.must(api.OK, tell, 9, whole)
	p.mustEarnAll(map[int]int64{8: 0, 9: 100, 10: 200, 11: 200})
}

// P15.2: what is refused, by the log or as a change, leaves the track as it was, and what comes behind is as if it hadn't come.
func TestRefused(t *testing.T) {
	for _, method := range methods() {
		p, q := half(t, method, 100), half(t, method, 100)
		for i, c := range []call{onward, afresh, onward, onward, afresh, afresh, onward} {
			for _, r := range changes() {
				q.must(api.ErrArg, r, -1, 900)
				q.must(api.ErrArg, r, mostDay+1, 900)
				q.must(api.ErrArg, r, mostDay, -1)
				if q.k.Since() > 0 {
					q.must(api.ErrOrder, r, q.k.Since()-1, 900)
				}
			}
			q.must(api.ErrArg, tell, 0, 1)
			q.must(api.ErrArg, tell, 15, 0)
			p.must(api.OK, c, 11+i, int64(200+50*i))
			q.must(api.OK, c, 11+i, int64(200+50*i))
		}
		for _, day := range p.asked() {
			q.mustEarn(p.k.Earned(day), day)
		}
		p.same()
		q.same()
	}
}
