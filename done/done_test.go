package done_test

import (
	"math"
	"slices"
	"testing"

	"quitrent/api"
	"quitrent/done"
)

// methods are the four.
func methods() []int { return []int{ratable, point, milestone, usage} }

// mustNew holds whether a log is made of an obligation, and what it tells at first.
func mustNew(t *testing.T, ok bool, d api.Duty) {
	t.Helper()
	if ok != mayBe(d) {
		t.Fatalf("the model of %v: %t, not %t", d, mayBe(d), ok)
	}
	if ok {
		newPair(t, d).same()
		return
	}
	if l, errno := done.New(d); l != nil || errno != api.ErrArg {
		t.Fatalf("New of %v: %v, %d, not %d", d, l, errno, api.ErrArg)
	}
}

// P14.1: as much may be told as a contract has events.
func TestMost(t *testing.T) {
	if done.Most != mostTold {
		t.Fatalf("Most is %d", done.Most)
	}
}

// P14.1, P14.3: the chapter's example, and what nothing was told of yet.
func TestExample(t *testing.T) {
	newPair(t, owed(ratable)).mustDone(6, 10, 15)
	newPair(t, owed(point)).mustDone(1, 1, 15)
	newPair(t, owed(milestone)).mustDone(0, whole, 15)
	newPair(t, owed(usage)).mustDone(0, 100, 15)
	for _, method := range methods() {
		p := newPair(t, owed(method))
		if p.l.Many() != 0 || !alike(p.l.Duty(), owed(method)) {
			t.Fatalf("of %v: %d, %v", owed(method), p.l.Many(), p.l.Duty())
		}
	}
}

// P14.1: each of the four methods, and those beside.
func TestMethods(t *testing.T) {
	for _, method := range methods() {
		mustNew(t, true, owed(method))
	}
	for _, method := range []int{-1, -2, 4, 5, 256, 258, 1 << 32, 1<<32 + 2, math.MinInt, math.MinInt + 1, math.MaxInt} {
		mustNew(t, false, owed(method))
	}
}

// P14.1: units, of each method, counted or not.
func TestUnits(t *testing.T) {
	for _, method := range methods() {
		d := owed(method)
		for _, d.Units = range []int64{1, 2, 100, 1 << 32, most - 1, most} {
			mustNew(t, true, d)
		}
		for _, d.Units = range []int64{0, -1, -100, -1 << 32, math.MinInt64 + 1, math.MinInt64} {
			mustNew(t, false, d)
		}
	}
}

// P14.1: First and Last, at both ends of what they may be, of one day, and First one day behind Last.
func TestFirstAndLast(t *testing.T) {
	for _, method := range methods() {
		for _, x := range [][2]int{{1, 1}, {1, 2}, {1, mostDay}, {mostDay, mostDay}, {mostDay - 1, mostDay}, {10, 10}, {10, 11}} {
			mustNew(t, true, fromTo(method, x[0], x[1]))
		}
		for _, x := range [][2]int{{0, 0}, {0, 1}, {0, mostDay}, {1, 0}, {2, 1}, {11, 10}, {mostDay, mostDay - 1}, {mostDay, 1}} {
			mustNew(t, false, fromTo(method, x[0], x[1]))
		}
		for _, x := range [][2]int{{mostDay, mostDay + 1}, {1, mostDay + 1}, {mostDay + 1, mostDay + 1}, {mostDay + 1, mostDay}, {-1, 5}, {-5, -1}} {
			mustNew(t, false, fromTo(method, x[0], x[1]))
		}
	}
}

// P14.1: each obligation of methods, units, first and last days at their bounds, and beyond.
func TestWhichMayBe(t *testing.T) {
	ends := []int{math.MinInt, -1, 0, 1, 2, 500, mostDay - 1, mostDay, mostDay + 1, 1<<32 + 1, math.MaxInt}
	may := 0
	for _, method := range []int{math.MinInt, -1, 0, 1, 2, 3, 4, math.MaxInt} {
		for _, units := range []int64{math.MinInt64, -1, 0, 1, 2, most} {
			for _, first := range ends {
				for _, last := range ends {
					d := api.Duty{Units: units, Method: method, First: first, Last: last}
					mustNew(t, mayBe(d), d)
					if mayBe(d) {
						may++
					}
				}
			}
		}
	}
	if may != 4*3*15 {
		t.Fatalf("%d may be", may)
	}
}

// P14.1: Lines and an Alone of any kind don't count, neither where an obligation may be nor where it may not.
func TestLinesAndAloneDoNotCount(t *testing.T) {
	lines := [][]int{nil, {}, {0}, {11}, {0, 1, 2}, {2, 1, 0}, {5, 5}, {-1}, {math.MinInt, math.MaxInt}, make([]int, 13), make([]int, 1000)}
	for _, method := range methods() {
		for _, l := range lines {
			for _, alone := range []int64{math.MinInt64, -1, 0, 1, most} {
				d := owed(method)
				d.Lines, d.Alone = l, alone
				mustNew(t, true, d)
				p := newPair(t, d)
				p.tell(12, 30)
				p.same()
				d.Units = 0
				mustNew(t, false, d)
			}
		}
	}
}

// tellSome tells a log something, where it may be told anything.
func tellSome(p *pair) {
	p.t.Helper()
	for day := 11; day < 15; day++ {
		p.tell(day, int64(day))
	}
}

// P14.1, R3: the obligation that was passed in stays as it was, and what its owner writes over it then isn't the log's.
func TestThePassedOne(t *testing.T) {
	for _, method := range methods() {
		room := []int{4, 7, 9, 0, 0}
		d := owed(method)
		d.Lines = room[:3]
		p := newPair(t, d)
		tellSome(p)
		p.same()
		if !slices.Equal(room, []int{4, 7, 9, 0, 0}) || d.Units != 100 || d.First != 10 || d.Last != 19 {
			t.Fatalf("changed: %v, %v", d, room)
		}
		clear(room)
		d.Units, d.Alone, d.Method, d.First, d.Last = 1, 1, 3-method, 1, 1
		p.same()
		if got := p.l.Duty().Lines; !slices.Equal(got, []int{4, 7, 9}) {
			t.Fatalf("the lines are %v", got)
		}
		_ = append(d.Lines, 5)
		p.same()
	}
}

// P14.1, R3: a Duty is a copy each time: what is written over one is neither the log's nor another one's.
func TestDutyIsACopy(t *testing.T) {
	for _, method := range methods() {
		p := newPair(t, owed(method))
		tellSome(p)
		first, second := p.l.Duty(), p.l.Duty()
		for i := range first.Lines {
			first.Lines[i] = -7
		}
		first.Units, first.First, first.Last, first.Method = 1, 1, 1, point
		if !alike(second, owed(method)) {
			t.Fatalf("the other one is %v", second)
		}
		_, _ = append(first.Lines, 1), append(second.Lines, 2)
		p.same()
		third := p.l.Duty()
		if len(third.Lines) != 2 || &third.Lines[0] == &second.Lines[0] {
			t.Fatalf("shared: %v", third)
		}
	}
}

// P14.1, R5: logs beside each other, of the same obligation and of others, have each what was told to them alone.
func TestLogsBesideEachOther(t *testing.T) {
	var pairs []*pair
	shared := []int{1, 2}
	for range 2 {
		for _, method := range methods() {
			d := owed(method)
			d.Lines = shared
			pairs = append(pairs, newPair(t, d))
		}
	}
	for step := range 8 {
		for i, p := range pairs {
			if (step+i)%3 != 0 {
				p.tell(10+step, int64(5*step+i))
			}
			p.l.Duty().Lines[0] = 77
		}
		for _, p := range pairs {
			p.same()
		}
	}
	for method := milestone; method <= usage; method++ {
		a, b := newPair(t, owed(method)), newPair(t, owed(method))
		a.must(api.OK, 12, 40)
		a.mustDone(40, map[int]int64{milestone: whole, usage: 100}[method], 12)
		b.mustDone(0, map[int]int64{milestone: whole, usage: 100}[method], 12)
		if a.l.Many() != 1 || b.l.Many() != 0 {
			t.Fatalf("told: %d, %d", a.l.Many(), b.l.Many())
		}
		b.must(api.OK, 12, 30) // nothing was told of that day to this one
		a.same()
		b.same()
	}
}

// P14.1: Many counts what was told, and nothing that was refused.
func TestMany(t *testing.T) {
	for _, method := range []int{milestone, usage} {
		p := newPair(t, owed(method))
		for i := range 20 {
			p.must(api.OK, 100+i, int64(1+i))
			p.must(api.ErrArg, 100+i, 0)
			p.must(api.ErrArg, 0, 1)
			if p.l.Many() != i+1 {
				t.Fatalf("Many: %d, not %d", p.l.Many(), i+1)
			}
		}
	}
}
