package duty_test

import (
	"math"
	"slices"
	"testing"

	"quitrent/api"
	"quitrent/duty"
)

// Items of the mixed book, by their places. Groups are such as are items and places of lines, too.
const (
	plainOne = iota
	plainTwo
	packA
	packB
	packC
	rowOne
	rowTwo
	packOther
)

// mixed is a book of all kinds of items.
func mixed(t *testing.T) *shop {
	t.Helper()
	s := newShop(t,
		api.Item{Tag: api.Distinct, Group: 5, Method: api.Ratable, Price: 3},
		api.Item{Tag: api.Distinct, Group: 0, Method: api.Point, Price: 50},
		api.Item{Tag: api.Bundle, Group: 5, Method: api.Milestone, Price: 700},
		api.Item{Tag: api.Bundle, Group: 5, Method: api.Usage, Price: 11},
		api.Item{Tag: api.Bundle, Group: 5, Method: api.Ratable, Price: 130},
		api.Item{Tag: api.Series, Group: 5, Method: api.Usage, Price: 1700},
		api.Item{Tag: api.Series, Group: 5, Method: api.Point, Price: 19},
		api.Item{Tag: api.Bundle, Group: 0, Method: api.Point, Price: 230})
	s.set(packB, 10, 13)
	s.set(rowOne, 10, 1)
	return s
}

// The chapter's example.
func TestExample(t *testing.T) {
	mixed(t).groups([][]int{{0}, {1, 3}, {2}}, plainOne, packA, plainTwo, packA)
}

// P11.1: a book that is nil, ahead of all else.
func TestNoBook(t *testing.T) {
	for _, lines := range [][]api.Line{nil, {}, linesOf(0), make([]api.Line, 1), make([]api.Line, 13)} {
		for _, day := range []int{math.MinInt, -1, 0, 1, math.MaxInt} {
			if got, errno := duty.Find(nil, lines, day); len(got) > 0 || errno != api.ErrArg {
				t.Fatalf("Find of no book, %v, at %d: %v, %d", lines, day, got, errno)
			}
		}
	}
}

// P11.1: days below 0, and from 0 on.
func TestDays(t *testing.T) {
	s := mixed(t)
	lines := linesOf(plainOne, packB, rowOne)
	for _, day := range []int{math.MinInt, math.MinInt32, -2, -1} {
		s.must(api.ErrArg, day, lines...)
	}
	for _, day := range []int{0, 1, 9, 10, 11, api.MostDay, api.MostDay + 1, math.MaxInt} {
		s.must(api.OK, day, lines...)
	}
}

// P11.1: no line, each number up to MostLines, and more.
func TestHowManyLines(t *testing.T) {
	s := mixed(t)
	s.must(api.ErrArg, 0)
	s.must(api.ErrArg, 0, []api.Line{}...)
	for item := range s.items {
		for many := 1; many < 30; many++ {
			want := api.OK
			if many > 12 {
				want = api.ErrFull
			}
			s.must(want, 0, linesOf(slices.Repeat([]int{item}, many)...)...)
		}
	}
}

// wrong are lines that may not be.
func wrong() []api.Line {
	return []api.Line{
		{},
		{Item: -1, Units: 1, First: 1, Last: 1},
		{Item: 8, Units: 1, First: 1, Last: 1},
		{Item: math.MaxInt, Units: 1, First: 1, Last: 1},
		{Item: math.MinInt, Units: 1, First: 1, Last: 1},
		{Units: 0, First: 1, Last: 1},
		{Units: -1, First: 1, Last: 1},
		{Units: 1, Charge: -1, First: 1, Last: 1},
		{Units: 1, First: 0, Last: 1},
		{Units: 1, First: 2, Last: 1},
		{Units: 1, First: 1, Last: api.MostDay + 1},
	}
}

// P11.1: lines that may not be, at each place of a list.
func TestWrongLines(t *testing.T) {
	s := mixed(t)
	for _, x := range wrong() {
		s.must(api.ErrArg, 0, x)
		for place := range 12 {
			lines := linesOf(2, 0, 5, 3, 0, 5, 6, 1, 7, 4, 2, 1)
			lines[place] = x
			s.must(api.ErrArg, 0, lines...)
		}
	}
	none := newShop(t)
	none.must(api.ErrArg, 0)
	none.must(api.ErrArg, 0, linesOf(0)...)
	none.must(api.ErrFull, 0, linesOf(make([]int, 13)...)...)
}

// P11.1, R2: which error comes first, where more than one would fit.
func TestErrorsInOrder(t *testing.T) {
	s := newShop(t, api.Item{Price: most})
	fine := api.Line{Units: 1, First: 1, Last: 1}
	over := api.Line{Units: 2, First: 1, Last: 1}
	many := func(x api.Line) []api.Line { return slices.Repeat([]api.Line{x}, 13) }
	// A day ahead of what Check says, that ahead of ErrOver.
	for _, x := range append(wrong(), fine, over) {
		s.must(api.ErrArg, -1, many(x)...)
		s.must(api.ErrFull, 0, many(x)...)
		s.must(api.ErrArg, -1, x)
	}
	s.must(api.ErrArg, -1)
	s.must(api.ErrOver, 0, over)
	for _, x := range wrong() {
		if x.Item == 8 {
			x.Item = 1
		}
		s.must(api.ErrArg, 0, over, x)
		s.must(api.ErrArg, 0, x, over)
		s.must(api.ErrArg, 0, over, fine, x)
	}
}

// The chapter's words: distinct items are each to itself, also twice the same.
func TestDistinct(t *testing.T) {
	s := mixed(t)
	s.groups([][]int{{0}}, plainOne)
	s.groups([][]int{{0}, {1}}, plainOne, plainOne)
	s.groups([][]int{{0}, {1}, {2}, {3}}, plainOne, plainTwo, plainOne, plainTwo)
	var each [][]int
	for i := range 12 {
		each = append(each, []int{i})
	}
	s.groups(each, slices.Repeat([]int{plainTwo}, 12)...)
}

// The chapter's words: items of a bundle belong together by their Group, whichever they are.
func TestBundles(t *testing.T) {
	s := mixed(t)
	s.groups([][]int{{0}}, packA)
	s.groups([][]int{{0, 1}}, packA, packA)
	s.groups([][]int{{0, 1, 2}}, packA, packB, packC)
	s.groups([][]int{{0}, {1}}, packA, packOther)
	s.groups([][]int{{0, 2}, {1, 3}}, packOther, packB, packOther, packA)
	s.groups([][]int{{0}, {1, 4, 6}, {2}, {3, 7}, {5}}, plainOne, packC, rowOne, packOther, packA, rowTwo, packB, packOther)
	all := []int{0, 1, 2, 3, 4, 5, 6, 7, 8, 9, 10, 11}
	s.groups([][]int{all}, packA, packB, packC, packC, packB, packA, packA, packA, packB, packC, packB, packA)
}

// The chapter's words: a series is all lines of one item, of no other one.
func TestSeries(t *testing.T) {
	s := mixed(t)
	s.groups([][]int{{0}}, rowOne)
	s.groups([][]int{{0, 1}}, rowOne, rowOne)
	s.groups([][]int{{0}, {1}}, rowOne, rowTwo)
	s.groups([][]int{{0, 2}, {1, 3}}, rowTwo, rowOne, rowTwo, rowOne)
	s.groups([][]int{{0, 3}, {1}, {2}}, rowOne, plainOne, rowTwo, rowOne)
}

// The chapter's words: a Group holds bundles' items together, and nothing else; nor does a number that is a Group, an item and a place.
func TestGroupsOfOthers(t *testing.T) {
	s := mixed(t)
	s.groups([][]int{{0}, {1}}, packA, rowOne)
	s.groups([][]int{{0}, {1}}, rowOne, packA)
	s.groups([][]int{{0}, {1}}, packA, plainOne)
	s.groups([][]int{{0, 3}, {1}, {2}}, packA, rowTwo, plainOne, packB)
	// The bundle's Group and the distinct line's place are 0.
	s.groups([][]int{{0}, {1, 3}, {2}}, plainTwo, packOther, plainTwo, packOther)
	// The bundle's Group, the series' item and a distinct line's place are 5.
	s.groups([][]int{{0, 2}, {1, 4}, {3}, {5}, {6}}, packA, rowOne, packB, packOther, rowOne, plainOne, plainOne)
}

// All rows of five lines out of eight items, against the chapter's words.
func TestAllRows(t *testing.T) {
	s := mixed(t)
	for row := range 1 << 15 {
		for many := 1; many <= 5; many++ {
			if row>>(3*many) != 0 {
				continue
			}
			var items []int
			for n := range many {
				items = append(items, row>>(3*n)&7)
			}
			s.must(api.OK, row%20, linesOf(items...)...)
		}
	}
}

// one holds that lines are one obligation, and tells it.
func (s *shop) one(day int, lines ...api.Line) api.Duty {
	s.t.Helper()
	got, errno := s.find(day, lines...)
	if errno != api.OK || len(got) != 1 {
		s.t.Fatalf("Find of %v: %v, %d", lines, got, errno)
	}
	return got[0]
}

// The chapter's words: Method is the first line's item's.
func TestMethod(t *testing.T) {
	s := mixed(t)
	for first, want := range map[int]int{packA: api.Milestone, packB: api.Usage, packC: api.Ratable, packOther: api.Point, rowOne: api.Usage, rowTwo: api.Point, plainOne: api.Ratable, plainTwo: api.Point} {
		if d := s.one(0, linesOf(first)...); d.Method != want {
			t.Errorf("Method of item %d: %d, not %d", first, d.Method, want)
		}
	}
	for _, row := range [][]int{{packA, packB, packC}, {packB, packC, packA}, {packC, packA, packB}, {packA, packC, packB}} {
		if d := s.one(0, linesOf(row...)...); d.Method != s.items[row[0]].Method {
			t.Errorf("Method of %v: %d", row, d.Method)
		}
	}
	// The first line of the bundle, not of the contract.
	got, _ := s.find(0, linesOf(plainTwo, packB, packA)...)
	if got[1].Method != api.Usage {
		t.Errorf("Method of a bundle behind another line: %d", got[1].Method)
	}
}

// The chapter's words: First and Last are the first and the last day of all.
func TestFirstAndLast(t *testing.T) {
	s := mixed(t)
	for _, c := range []struct{ first, last, wantFirst, wantLast int }{
		{10, 20, 10, 20}, {5, 15, 5, 20}, {15, 25, 10, 25}, {5, 25, 5, 25}, {12, 18, 10, 20},
		{1, 2, 1, 20}, {30, 31, 10, 31}, {20, 20, 10, 20}, {10, 10, 10, 20},
		{1, 1000000, 1, 1000000}, {1000000, 1000000, 10, 1000000}, {1, 1, 1, 20},
	} {
		for _, items := range [][2]int{{packA, packB}, {rowOne, rowOne}} {
			head := api.Line{Item: items[0], Units: 1, First: 10, Last: 20}
			later := api.Line{Item: items[1], Units: 1, First: c.first, Last: c.last}
			for _, lines := range [][]api.Line{{head, later}, {later, head}, {head, later, head}, {later, later, head}} {
				if d := s.one(0, lines...); d.First != c.wantFirst || d.Last != c.wantLast {
					t.Errorf("days %d to %d beside 10 to 20: %d to %d", c.first, c.last, d.First, d.Last)
				}
			}
		}
		// Lines of others don't count.
		got, _ := s.find(0, api.Line{Item: plainOne, Units: 1, First: c.first, Last: c.last}, api.Line{Item: packA, Units: 1, First: 10, Last: 20})
		if got[1].First != 10 || got[1].Last != 20 {
			t.Errorf("days beside another obligation's: %v", got)
		}
	}
}

// The chapter's words: Alone is by the prices of the day, Units are of all together.
func TestAloneAndUnits(t *testing.T) {
	s := newShop(t, api.Item{Tag: api.Bundle, Price: 100}, api.Item{Tag: api.Bundle, Price: 7}, api.Item{Tag: api.Series, Price: 1000}, api.Item{Price: 5})
	s.set(0, 10, 120)
	s.set(0, 20, 80)
	s.set(2, 11, 1)
	lines := []api.Line{{Item: 0, Units: 3, Charge: 9, First: 10, Last: 40}, {Item: 2, Units: 2, First: 1, Last: 9}, {Item: 1, Units: 4, First: 2, Last: 3}, {Item: 3, Units: 6, First: 5, Last: 5}, {Item: 2, Units: 5, First: 50, Last: 60}}
	for day, want := range map[int][3]int64{
		0: {328, 7000, 30}, 1: {328, 7000, 30}, 9: {328, 7000, 30}, 10: {388, 7000, 30}, 11: {388, 7, 30}, 19: {388, 7, 30},
		20: {268, 7, 30}, 21: {268, 7, 30}, 1000000: {268, 7, 30}, math.MaxInt: {268, 7, 30},
	} {
		got, errno := s.find(day, lines...)
		if errno != api.OK || len(got) != 3 {
			t.Fatalf("Find at %d: %v, %d", day, got, errno)
		}
		for i, d := range got {
			if d.Alone != want[i] || d.Units != []int64{7, 7, 6}[i] {
				t.Errorf("at %d, of obligation %d: %d of %d units", day, i, d.Alone, d.Units)
			}
		}
	}
}

// R3: an answer shares nothing with the lines, nor one of its lists with another, nor with an answer ahead.
func TestSharesNothing(t *testing.T) {
	s := mixed(t)
	room := append(make([]api.Line, 0, 20), linesOf(2, 0, 5, 3, 0, 5, 6, 1, 7, 4)...)
	before := slices.Clone(room[:20])
	got, _ := duty.Find(s.b, room, 3)
	again, _ := duty.Find(s.b, room, 3)
	if !slices.Equal(room[:20], before) {
		t.Fatal("the lines changed")
	}
	want, _ := s.want(room, 3)
	clear(room)
	for i := range got {
		sameDuties(t, got[i:], want[i:])
		list := got[i].Lines[:cap(got[i].Lines)]
		for at := range list {
			list[at] = -1
		}
		sameDuties(t, got[i+1:], want[i+1:])
		sameDuties(t, again, want)
	}
	clear(got[:cap(got)])
	sameDuties(t, again, want)
}

// sameDuties holds obligations against others.
func sameDuties(t *testing.T, got, want []api.Duty) {
	t.Helper()
	same := slices.EqualFunc(got, want, func(a, b api.Duty) bool {
		return slices.Equal(a.Lines, b.Lines) && a.Alone == b.Alone && a.Units == b.Units && a.Method == b.Method && a.First == b.First && a.Last == b.Last
	})
	if !same {
		t.Fatalf("obligations %v, not %v", got, want)
	}
}

// R4, R5: what Find answers hangs on the book as it is, not on what was asked ahead.
func TestKeepsNothing(t *testing.T) {
	s, other := mixed(t), newShop(t, api.Item{Tag: api.Series, Price: 4}, api.Item{Price: 4}, api.Item{Tag: api.Bundle, Price: 4})
	lines := linesOf(2, 0, 1, 2, 0, 1)
	for range 3 {
		s.must(api.OK, 50, lines...)
		other.must(api.OK, 50, lines...)
		s.must(api.ErrArg, -1, lines...)
	}
	s.set(2, 40, 1)
	s.must(api.OK, 50, lines...)
	other.must(api.OK, 50, lines...)
}
