package done_test

import (
	"slices"
	"testing"

	"quitrent/api"
)

// span tells what is done through each day from 0 to last.
func span(p *pair, last int) []int64 {
	var l []int64
	for day := range last + 1 {
		n, _ := p.l.Through(day)
		l = append(l, n)
	}
	return l
}

// tellIt tells something, and holds that what is done through a day up to last is no less by it, and ahead of its own day the same; what is refused changes nothing.
func tellIt(p *pair, last, day int, n int64) api.Errno {
	p.t.Helper()
	was := span(p, last)
	errno := p.tell(day, n)
	for at, now := range span(p, last) {
		if now < was[at] || now != was[at] && (errno != api.OK || at < day) {
			p.t.Fatalf("Tell of %d, %d: through %d %d, and %d ahead of it", day, n, at, now, was[at])
		}
	}
	return errno
}

// do tells something of one of eight kinds.
func do(p *pair, kind int) api.Errno {
	kinds := []told{{3, 2}, {5, 2}, {4, 3}, {5, 7}, {7, 5}, {4, whole}, {6, most}, {1, 1}}
	return tellIt(p, 8, kinds[kind].day, kinds[kind].n)
}

// P14.2 to P14.4: each row of five out of eight that are told, of Milestone and of Usage; behind the last one, whatever it answered, all is told as the chapter says.
func TestRows(t *testing.T) {
	seen := map[api.Errno]int{}
	for _, d := range []api.Duty{owed(milestone), ofUnits(6), ofUnits(most)} {
		for row := range 1 << 15 {
			p := newPair(t, d)
			for n := range 5 {
				seen[do(p, row>>(3*n)&7)]++
			}
			p.same()
		}
	}
	for _, errno := range []api.Errno{api.OK, api.ErrArg, api.ErrTwice, api.ErrOrder, api.ErrOver} {
		if seen[errno] < 1000 {
			t.Errorf("error %d came %d times", errno, seen[errno])
		}
	}
}

// walk calls with each order of a list.
func walk(left, order []told, call func(order []told)) {
	if len(left) == 0 {
		call(order)
	}
	for i, x := range left {
		walk(slices.Delete(slices.Clone(left), i, i+1), append(slices.Clone(order), x), call)
	}
}

// P14.4: what is told in every order: all of it is told, and the same is done.
func TestOrders(t *testing.T) {
	for _, x := range []struct {
		d api.Duty
		l []told
	}{
		{owed(milestone), []told{{1, 1}, {5, 2}, {6, 2}, {9, 5000}, {20, 9999}, {mostDay, whole}}},
		{owed(milestone), []told{{2, 7}, {3, 7}, {4, 7}, {5, 7}, {6, 7}}},
		{owed(usage), []told{{1, 10}, {5, 20}, {5, 20}, {5, 1}, {20, 30}, {mostDay, 40}}},
		{ofUnits(most), []told{{9, most - 10}, {2, 3}, {20, 1}, {1, 4}, {9, 2}}},
		{ofUnits(1), []told{{9, most / 2}, {2, 3}, {20, most / 4}, {1, 4}}},
	} {
		var want []int64
		orders := 0
		walk(x.l, nil, func(order []told) {
			p := newPair(t, x.d)
			for _, y := range order {
				if errno := tellIt(p, 25, y.day, y.n); errno != api.OK {
					t.Fatalf("Tell of %v, of %v: %d", y, order, errno)
				}
			}
			p.same()
			if got := span(p, 25); orders > 0 && !slices.Equal(got, want) {
				t.Fatalf("%v: %v, not %v", order, got, want)
			}
			want = span(p, 25)
			orders++
		})
		if orders < 24 {
			t.Fatalf("%d orders", orders)
		}
	}
}

// few tells an obligation of a method, of any days up to some 40.
func few(next func(int) int, method int) api.Duty {
	first := 1 + next(30)
	units := []int64{1, int64(1 + next(300)), int64(1 + next(1<<40)), most}[next(4)]
	return api.Duty{Lines: make([]int, next(4)), Units: units, Method: method, First: first, Last: first + next(10)}
}

// number tells one of a size that suits a method, and one that may not be now and then.
func number(next func(int) int, method int, day int) int64 {
	switch {
	case next(20) == 0:
		return []int64{0, -1, whole + 1, most, most - 1, 1}[next(6)]
	case method == milestone: // mostly in order
		return int64(day*20 + next(45))
	}
	return int64(1 + next(1<<(1+next(50))))
}

// again tells what a log was told to a new one, in another order: all of it is told, and the same is done.
func again(p *pair, next func(int) int) {
	p.t.Helper()
	q, l := newPair(p.t, p.m.duty), slices.Clone(p.m.told)
	for i := range l {
		j := next(i + 1)
		l[i], l[j] = l[j], l[i]
	}
	for _, x := range l {
		q.must(api.OK, x.day, x.n)
	}
	q.same()
	for _, day := range p.asked() {
		n, of := p.mustBe(day)
		q.mustDone(n, of, day)
	}
}

// P14.2 to P14.4: long rows of mixed calls, to logs beside each other, until they are full; and what they were told, in another order.
func TestMixed(t *testing.T) {
	next := random()
	seen := map[api.Errno]int{}
	for range 40 {
		var pairs []*pair
		for _, method := range []int{ratable, point, milestone, usage, milestone, usage} {
			pairs = append(pairs, newPair(t, few(next, method)))
		}
		span := 30 + next(400)
		for range 2000 {
			p := pairs[next(len(pairs))]
			day := next(span+9) - 1
			seen[p.tell(day, number(next, p.m.duty.Method, day))]++
			p.mustBe(next(span+20) - 5)
		}
		for _, p := range pairs {
			p.same()
			again(p, next)
		}
	}
	for _, errno := range []api.Errno{api.OK, api.ErrArg, api.ErrTwice, api.ErrOrder, api.ErrFull, api.ErrOver} {
		if seen[errno] < 50 {
			t.Errorf("error %d came %d times", errno, seen[errno])
		}
	}
}
