package track_test

import (
	"math"
	"slices"
	"testing"

	"quitrent/api"
	"quitrent/done"
	"quitrent/track"
)

// P15.1, P15.2: what a track is asked, also by what its log promotes.
var _ interface {
	Tell(day int, n int64) api.Errno
	Earned(day int) int64
	Allotted() int64
	Whole(day int) bool
	Onward(day int, allotted int64) api.Errno
	Afresh(day int, allotted int64) api.Errno
	Since() int
	Duty() api.Duty
} = (*track.Track)(nil)

// mustRefuse holds that no track is made of an obligation and an allotment.
func mustRefuse(t *testing.T, d api.Duty, allotted int64) {
	t.Helper()
	if k, errno := track.New(d, allotted); k != nil || errno != api.ErrArg {
		t.Fatalf("New of %v, %d: %v, %d", d, allotted, k, errno)
	}
}

// allotments are those of any kind: the ones at the bounds, and beyond.
func allotments() []int64 {
	return []int64{math.MinInt64, math.MinInt64 + 1, -100, -1, 0, 1, 2, 100, 1 << 32, most - 1, most}
}

// The chapter's example.
func TestExample(t *testing.T) {
	d := owed(ratable)
	d.First, d.Last = 1, 10
	p := newPair(t, d, 100)
	p.mustEarnAll(map[int]int64{5: 50, 8: 80, 10: 100})
	p.must(api.OK, onward, 5, 150)
	p.mustEarnAll(map[int]int64{5: 50, 8: 110, 10: 150})
}

// P15.1: a new track of each method: what is allotted is all, since day 0, and nothing was told.
func TestNew(t *testing.T) {
	for _, method := range methods() {
		for _, allotted := range []int64{0, 1, 2, 7, 100, 1 << 32, most - 1, most} {
			p := newPair(t, owed(method), allotted)
			p.mustStand(0, allotted)
			p.mustEarn(0, 0)
			p.same()
			if many := p.k.Many(); many != 0 {
				t.Fatalf("of a new one %d was told", many)
			}
		}
	}
}

// P15.1: an allotment below 0.
func TestAllottedBelowNone(t *testing.T) {
	for _, method := range methods() {
		for _, allotted := range []int64{-1, -2, -100, -1 << 32, math.MinInt64 + 1, math.MinInt64} {
			mustRefuse(t, owed(method), allotted)
		}
	}
}

// P15.1: obligations that may not be, with an allotment of any kind.
func TestWhichMayNotBe(t *testing.T) {
	for _, x := range []struct {
		units               int64
		method, first, last int
	}{
		{0, ratable, 10, 19}, {-1, ratable, 10, 19}, {math.MinInt64, usage, 10, 19}, {0, usage, 10, 19}, {0, milestone, 10, 19}, {0, point, 10, 19},
		{1, -1, 10, 19}, {1, 4, 10, 19}, {1, math.MinInt, 10, 19}, {1, math.MaxInt, 10, 19}, {1, 1<<32 + 2, 10, 19},
		{1, ratable, 0, 19}, {1, point, -1, 19}, {1, milestone, 11, 10}, {1, usage, 10, mostDay + 1},
		{1, ratable, mostDay + 1, mostDay + 1}, {1, ratable, 10, 0}, {1, ratable, math.MinInt, math.MaxInt},
	} {
		d := api.Duty{Lines: []int{1}, Alone: 5, Units: x.units, Method: x.method, First: x.first, Last: x.last}
		for _, allotted := range allotments() {
			mustRefuse(t, d, allotted)
		}
	}
	for _, allotted := range allotments() {
		mustRefuse(t, api.Duty{}, allotted)
	}
}

// P15.1: just those obligations may be of which there is a log, at their bounds.
func TestWhichMayBe(t *testing.T) {
	ends := []int{math.MinInt, 0, 1, 500, mostDay, mostDay + 1, math.MaxInt}
	may := 0
	for _, method := range []int{-1, 0, 1, 2, 3, 4} {
		for _, units := range []int64{-1, 0, 1, most} {
			for _, first := range ends {
				for _, last := range ends {
					d := api.Duty{Units: units, Method: method, First: first, Last: last}
					if _, errno := done.New(d); errno != api.OK {
						mustRefuse(t, d, 5)
						continue
					}
					newPair(t, d, 5).same()
					mustRefuse(t, d, -1)
					may++
				}
			}
		}
	}
	if may != 4*2*6 {
		t.Fatalf("%d may be", may)
	}
}

// changeAll does some of everything that may be done to a track of half's kind.
func changeAll(p *pair) {
	p.t.Helper()
	p.must(api.OK, onward, 12, 300)
	p.do(tell, 16, 6000)
	p.must(api.OK, afresh, 15, 250)
	p.do(tell, 13, 5000)
	p.must(api.OK, onward, 17, 400)
}

// P15.1, R3: the obligation that was passed in stays as it was, and what its owner writes over it then isn't the track's.
func TestThePassedOne(t *testing.T) {
	for _, method := range methods() {
		room := []int{4, 7, 9, 0, 0}
		d := owed(method)
		d.Lines = room[:3]
		p := newPair(t, d, 100)
		changeAll(p)
		p.same()
		if !slices.Equal(room, []int{4, 7, 9, 0, 0}) || d.Units != 100 || d.First != 10 || d.Last != 19 {
			t.Fatalf("changed: %v, %v", d, room)
		}
		clear(room)
		d.Units, d.Alone, d.Method, d.First, d.Last = 1, 1, 3-method, 1, 1
		p.same()
		if got := p.k.Duty().Lines; !slices.Equal(got, []int{4, 7, 9}) {
			t.Fatalf("the lines are %v", got)
		}
		_ = append(d.Lines, 5)
		p.same()
	}
}

// P15.1, R3: a Duty is a copy each time: what is written over one is neither the track's nor another one's.
func TestDutyIsACopy(t *testing.T) {
	for _, method := range methods() {
		p := half(t, method, 100)
		changeAll(p)
		first, second := p.k.Duty(), p.k.Duty()
		for i := range first.Lines {
			first.Lines[i] = -7
		}
		first.Units, first.First, first.Last, first.Method = 1, 1, 1, 3-method
		if !alike(second, owed(method)) {
			t.Fatalf("the other one is %v", second)
		}
		_, _ = append(first.Lines, 1), append(second.Lines, 2)
		if third := p.k.Duty(); !alike(third, owed(method)) || &third.Lines[0] == &second.Lines[0] {
			t.Fatalf("the third one is %v", third)
		}
		p.same()
	}
}

// P15.1, R5: tracks beside each other, of the same obligation and of others, have each what was told and changed of them alone.
func TestTracksBesideEachOther(t *testing.T) {
	var pairs []*pair
	shared := []int{1, 2}
	for n := range 2 {
		for _, method := range methods() {
			d := owed(method)
			d.Lines = shared
			pairs = append(pairs, newPair(t, d, int64(100+50*n)))
		}
	}
	for step := range 8 {
		for i, p := range pairs {
			switch (step + i) % 4 {
			case 0:
				p.must(api.OK, onward, 10+step, int64(500+10*step+i))
			case 1:
				p.must(api.OK, afresh, 10+step, int64(400+10*step+i))
			case 2:
				p.do(tell, 10+step, int64(5*step+i+1))
			}
			p.k.Duty().Lines[0] = 77
		}
		for _, p := range pairs {
			p.same()
		}
	}
	a, b := half(t, ratable, 100), half(t, ratable, 100)
	a.must(api.OK, onward, 14, 200)
	b.must(api.OK, afresh, 12, 1000)
	a.mustEarnAll(map[int]int64{12: 30, 14: 50, 19: 200})
	b.mustEarnAll(map[int]int64{12: 300, 14: 500, 19: 1000})
	a.mustStand(14, 200)
	b.mustStand(12, 1000)
}

// P15.1: Tell answers what the log does, each of its errors.
func TestTell(t *testing.T) {
	for _, method := range []int{ratable, point} {
		p := newPair(t, owed(method), 100)
		for _, day := range append(farDays(), 9, 10, 15, 19, 20) {
			for _, n := range []int64{math.MinInt64, -1, 0, 1, whole, most} {
				p.must(api.ErrArg, tell, day, n)
			}
		}
	}
	p := newPair(t, owed(milestone), 100)
	p.must(api.OK, tell, 20, 4000)
	p.must(api.ErrTwice, tell, 20, 4000)
	p.must(api.ErrTwice, tell, 20, 5000)
	p.must(api.ErrOrder, tell, 19, 4001)
	p.must(api.ErrOrder, tell, 21, 3999)
	p.must(api.OK, tell, 19, 4000)
	p.must(api.OK, tell, mostDay, whole)
	p.must(api.OK, tell, 1, 1)
	for _, n := range []int64{math.MinInt64, -1, 0, whole + 1, most} {
		p.must(api.ErrArg, tell, 20, n)
		p.must(api.ErrArg, tell, 30, n)
	}
	for _, day := range []int{math.MinInt, -1, 0, mostDay + 1, math.MaxInt} {
		p.must(api.ErrArg, tell, day, whole)
	}
	p.same()
	p = newPair(t, owed(usage), 100)
	p.must(api.OK, tell, 20, most-1)
	p.must(api.ErrOver, tell, 5, 2)
	p.must(api.OK, tell, 5, 1)
	p.must(api.ErrOver, tell, 5, 1)
	p.must(api.ErrArg, tell, 5, 0)
	p.must(api.ErrArg, tell, 0, most)
	p.must(api.ErrArg, tell, mostDay+1, 1)
	p.same()
}

// P15.1: as much is told as a log takes, and one more, also where what is allotted changes in between.
func TestTellFull(t *testing.T) {
	for _, method := range []int{milestone, usage} {
		p := newPair(t, owed(method), 1000)
		for i := range mostTold {
			p.must(api.OK, tell, 10+2*i, int64(20+i))
			if i%10 == 5 {
				p.must(api.OK, changes()[i/10%2], 10+2*i, int64(2000+i))
			}
		}
		p.same()
		if many := p.k.Many(); many != mostTold {
			t.Fatalf("%d was told", many)
		}
		p.must(api.ErrFull, tell, mostDay, whole)
		p.must(api.ErrFull, tell, 9, 20)
		p.must(api.ErrArg, tell, mostDay, 0)
	}
}
