package track_test

import (
	"testing"

	"quitrent/api"
)

// earnedBy tells what is earned through each day from 0 to last.
func earnedBy(p *pair, last int) []int64 {
	var l []int64
	for day := range last + 1 {
		l = append(l, p.k.Earned(day))
	}
	return l
}

// follows tells whether what was earned through a day, at, may be that now, behind a call that was done of a day.
func follows(p *pair, c call, day, since, at int, was, now int64) bool {
	switch {
	case at < day: // P15.3 of Onward; Afresh and Tell change nothing there, either
		return now == was
	case at == day && c.name == "Onward":
		return now == was || p.k.Whole(day) && now == p.k.Allotted()
	case c.name == "Tell" && day > since:
		return now >= was
	}
	return true
}

// doIt does a call, and holds what follows from it through each day up to last; what is refused changes nothing.
func doIt(p *pair, c call, last, day int, n int64) api.Errno {
	p.t.Helper()
	was, since := earnedBy(p, last), p.k.Since()
	errno := p.do(c, day, n)
	for at, now := range earnedBy(p, last) {
		if errno != api.OK && now != was[at] || errno == api.OK && !follows(p, c, day, since, at, was[at], now) {
			p.t.Fatalf("%s of %d, %d, to %v, %v: through %d %d, and %d ahead of it", c.name, day, n, p.m.log.Duty(), p.m.spans, at, now, was[at])
		}
	}
	return errno
}

// one is a call of a day.
type one struct {
	c   call
	day int
	n   int64
}

// kinds are eight that may be done to a track, by a unit of what is told.
func kinds(unit int64) []one {
	return []one{{tell, 2, unit}, {tell, 4, 2 * unit}, {onward, 3, 9}, {onward, 4, 5}, {onward, 5, 20}, {afresh, 3, 0}, {afresh, 4, 13}, {afresh, 5, 4}}
}

// P15.1 to P15.3: each row of five out of eight calls, of each method; behind the last one, whatever it answered, all is as the chapter says.
func TestRows(t *testing.T) {
	seen := map[api.Errno]int{}
	for _, d := range []api.Duty{
		{Units: 1, Method: ratable, First: 3, Last: 5},
		{Units: 1, Method: point, First: 4, Last: 5},
		{Units: 1, Method: milestone, First: 3, Last: 5},
		{Units: 5, Method: usage, First: 3, Last: 5},
	} {
		l := kinds(2)
		if d.Method == milestone {
			l = kinds(whole / 2)
		}
		for row := range 1 << 15 {
			p := newPair(t, d, 7)
			for n := range 5 {
				x := l[row>>(3*n)&7]
				seen[doIt(p, x.c, 6, x.day, x.n)]++
			}
			p.same()
		}
	}
	for _, errno := range []api.Errno{api.OK, api.ErrArg, api.ErrTwice, api.ErrOrder} {
		if seen[errno] < 1000 {
			t.Errorf("error %d came %d times", errno, seen[errno])
		}
	}
}

// size tells a number of any size, from 0 on.
func size(next func(int) int) int64 {
	return []int64{0, 1, int64(next(10)), int64(next(300)), int64(next(1 << 40)), int64(next(1 << 53)), most - int64(next(3)), most}[next(8)]
}

// few tells an obligation of a method, of any days up to some 40.
func few(next func(int) int, method int) api.Duty {
	first := 1 + next(30)
	return api.Duty{Lines: make([]int, next(4)), Units: max(1, size(next)), Method: method, First: first, Last: first + next(12)}
}

// mix does one call of any kind, mostly such that it isn't refused.
func mix(p *pair, next func(int) int, last int) api.Errno {
	p.t.Helper()
	day := next(last)
	switch next(12) {
	case 0:
		return doIt(p, onward, last, []int{-1, 0, mostDay + 1, mostDay}[next(91)/30], size(next))
	case 1:
		return doIt(p, afresh, last, day, size(next)-1)
	case 2, 3, 4:
		day = p.k.Since() + next(3)
		return doIt(p, onward, last, day, p.k.Earned(day)-1+int64(next(60)))
	case 5:
		return doIt(p, afresh, last, p.k.Since()+next(3), size(next))
	}
	if p.m.log.Duty().Method == milestone { // mostly in order
		return doIt(p, tell, last, day, int64(day*whole/last+next(30)))
	}
	return doIt(p, tell, last, day, size(next)>>next(10))
}

// P15.1 to P15.3: long rows of mixed calls, to tracks beside each other, until they are full.
func TestMixed(t *testing.T) {
	next := random()
	seen := map[api.Errno]int{}
	full := 0
	for range 40 {
		var pairs []*pair
		for _, method := range append(methods(), milestone, usage) {
			pairs = append(pairs, newPair(t, few(next, method), size(next)))
		}
		last := 45 + next(100)
		for range 200 {
			for _, p := range pairs {
				seen[mix(p, next, last)]++
			}
		}
		for _, p := range pairs {
			p.same()
			if len(p.m.spans) == mostSpans {
				full++
			}
		}
	}
	for _, errno := range []api.Errno{api.OK, api.ErrArg, api.ErrTwice, api.ErrOrder, api.ErrFull, api.ErrOver} {
		if seen[errno] < 200 {
			t.Errorf("error %d came %d times", errno, seen[errno])
		}
	}
	if full < 20 {
		t.Errorf("%d were full", full)
	}
}

// P15.3: allotments and days of all sizes, each through many days, behind a change of each kind.
func TestAllSizes(t *testing.T) {
	next := random()
	for range 4000 {
		first := 1 + next(mostDay)
		d := api.Duty{Units: max(1, size(next)), Method: next(4), First: first, Last: first + next(mostDay-first+1)}
		p := newPair(t, d, size(next))
		for range 3 {
			day := 1 + next(mostDay)
			p.do(tell, day, max(1, size(next)>>next(40)))
			p.do(tell, day, int64(1+day/100))
			p.do(changes()[next(2)], p.k.Since()+next(mostDay-p.k.Since()+1), size(next))
		}
		p.same()
	}
}
