package duty_test

import (
	"math/big"
	"slices"
	"testing"

	"quitrent/api"
	"quitrent/duty"
)

// line tells a line that may be, of all sizes.
func line(next func(int) int, items int) api.Line {
	first := 1 + next(1000)
	x := api.Line{Item: next(items), Units: int64(1 + next(50)), Charge: int64(next(100)), First: first, Last: first + next(300)}
	switch next(8) {
	case 0:
		x.Units = most >> next(12)
	case 1:
		x.First, x.Last = 1, api.MostDay
	}
	return x
}

// anyShop tells a book of items of all kinds, some with prices that were set.
func anyShop(t *testing.T, next func(int) int) *shop {
	t.Helper()
	var items []api.Item
	for range 1 + next(7) {
		items = append(items, api.Item{Tag: next(3), Group: next(3), Method: next(4), Price: int64(1 + next(9))})
	}
	s := newShop(t, items...)
	for item := range items {
		for day := range next(3) {
			s.set(item, 1+10*day+next(10), int64(1+next(20)))
		}
	}
	return s
}

// P11.1, P11.2: lines of all sizes, up to MostLines and one more, in an order and turned about, against the chapter's words.
func TestMixed(t *testing.T) {
	next := random()
	seen := map[api.Errno]int{}
	for range 3000 {
		s := anyShop(t, next)
		var lines []api.Line
		for range next(14) {
			lines = append(lines, line(next, len(s.items)))
		}
		if len(lines) > 0 && next(20) == 0 {
			lines[next(len(lines))] = wrong()[next(len(wrong()))]
		}
		day := next(30) - 1
		_, errno := s.find(day, lines...)
		slices.Reverse(lines)
		s.must(errno, day, lines...)
		seen[errno]++
	}
	for _, errno := range []api.Errno{api.OK, api.ErrArg, api.ErrFull, api.ErrOver} {
		if seen[errno] < 100 {
			t.Errorf("error %d came %d times", errno, seen[errno])
		}
	}
}

// orders tells all orders of so many places.
func orders(many int) [][]int {
	if many == 0 {
		return [][]int{nil}
	}
	var all [][]int
	for _, short := range orders(many - 1) {
		for at := range many {
			all = append(all, slices.Insert(slices.Clone(short), at, many-1))
		}
	}
	return all
}

// laid tells lines in an order.
func laid(lines []api.Line, order []int) []api.Line {
	var l []api.Line
	for _, place := range order {
		l = append(l, lines[place])
	}
	return l
}

// home tells the obligations of lines in an order as they are without it: by the places that the lines have then, in order of the first ones, each recognized as its first one is.
func (s *shop) home(duties []api.Duty, lines []api.Line, order []int) []api.Duty {
	s.t.Helper()
	var l []api.Duty
	for _, d := range duties {
		var places []int
		for _, place := range d.Lines {
			places = append(places, order[place])
		}
		head := s.items[lines[places[0]].Item]
		if d.Method != head.Method {
			s.t.Fatalf("Method %d of an obligation that begins with one of %d", d.Method, head.Method)
		}
		slices.Sort(places)
		d.Lines, d.Method = places, s.items[lines[places[0]].Item].Method
		l = append(l, d)
	}
	slices.SortFunc(l, func(a, b api.Duty) int { return a.Lines[0] - b.Lines[0] })
	return l
}

// P11.2: in each order lines give the same obligations, but for their order, places, and how a bundle is recognized.
func TestAllOrders(t *testing.T) {
	s := mixed(t)
	for _, items := range [][]int{
		{plainOne}, {plainOne, packA}, {packA, packB, packC}, {packA, packOther, packB, packOther},
		{rowOne, rowTwo, rowOne, packA, packC}, {plainOne, plainOne, plainTwo, packA, packB, rowOne},
		{rowOne, rowOne, packC, packOther, plainTwo, packA}, {packA, rowOne, plainOne, packB, rowOne, plainOne},
	} {
		lines := linesOf(items...)
		want, errno := s.find(10, lines...)
		if errno != api.OK {
			t.Fatalf("Find of items %v: %d", items, errno)
		}
		for _, order := range orders(len(lines)) {
			got, errno := s.find(10, laid(lines, order)...)
			if errno != api.OK {
				t.Fatalf("Find of items %v, in order %v: %d", items, order, errno)
			}
			sameDuties(t, s.home(got, lines, order), want)
		}
	}
}

// P11.2: in each order an error is the same.
func TestErrorsInAllOrders(t *testing.T) {
	s := costs(t, api.Bundle, 3, 5, 2)
	fine := units([2]int64{0, most / 10}, [2]int64{1, most / 20}, [2]int64{2, most / 2}, [2]int64{2, most / 2}, [2]int64{0, 1})
	over := slices.Clone(fine)
	over[4].Units = most / 5
	arg := slices.Clone(over)
	arg[2].Units = 0
	for _, order := range orders(5) {
		s.must(api.OK, 0, laid(fine, order)...)
		s.must(api.ErrOver, 0, laid(over, order)...)
		s.must(api.ErrArg, 0, laid(arg, order)...)
	}
}

// P11.2: each line is of just one obligation; places rise, obligations by their first ones; what all are worth alone is what the lines are, together.
func TestEachLineOnce(t *testing.T) {
	next := random()
	many := 0
	for range 3000 {
		s := anyShop(t, next)
		var lines []api.Line
		for range 1 + next(12) {
			lines = append(lines, line(next, len(s.items)))
		}
		day := next(30)
		duties, errno := duty.Find(s.b, lines, day)
		if errno == api.ErrOver {
			continue
		}
		many++
		times, first := make([]int, len(lines)), -1
		left := new(big.Int)
		for _, d := range duties {
			if len(d.Lines) == 0 || d.Lines[0] <= first || !slices.IsSorted(d.Lines) {
				t.Fatalf("obligations' places: %v", duties)
			}
			first = d.Lines[0]
			for _, place := range d.Lines {
				times[place]++
			}
			left.Sub(left, big.NewInt(d.Alone))
		}
		for _, x := range lines {
			alone, _ := s.b.Alone(x, day)
			left.Add(left, big.NewInt(alone))
		}
		if errno != api.OK || slices.Min(times) != 1 || slices.Max(times) != 1 || left.Sign() != 0 {
			t.Fatalf("Find of %v: %v, %d", lines, duties, errno)
		}
	}
	if many < 1000 {
		t.Errorf("only %d had no error", many)
	}
}
