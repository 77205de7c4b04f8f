package duty_test

import (
	"slices"
	"testing"

	"quitrent/api"
)

// costs is a book of two items of one kind, of a bundle of Group 1 or a series, and a distinct one, at these prices.
func costs(t *testing.T, tag int, prices ...int64) *shop {
	t.Helper()
	return newShop(t,
		api.Item{Tag: tag, Group: 1, Price: prices[0]},
		api.Item{Tag: tag, Group: 1, Price: prices[1]},
		api.Item{Tag: api.Distinct, Group: 1, Price: prices[2]})
}

// units are lines of these items, with so many units.
func units(pairs ...[2]int64) []api.Line {
	var l []api.Line
	for _, p := range pairs {
		l = append(l, api.Line{Item: int(p[0]), Units: p[1], First: 1, Last: 1})
	}
	return l
}

// P11.1: one line whose Alone is 2^63 - 1, and further.
func TestOneLineOver(t *testing.T) {
	for _, tag := range []int{api.Distinct, api.Bundle, api.Series} {
		s := costs(t, tag, 7, 1<<62, 1)
		s.must(api.OK, 0, units([2]int64{0, most / 7})...)
		s.must(api.ErrOver, 0, units([2]int64{0, most/7 + 1})...)
		s.must(api.OK, 0, units([2]int64{1, 1})...)
		s.must(api.ErrOver, 0, units([2]int64{1, 2})...)
		s.must(api.ErrOver, 0, units([2]int64{1, 4})...) // 2^64, which would wrap to 0
		s.must(api.ErrOver, 0, units([2]int64{1, most})...)
		s.must(api.OK, 0, units([2]int64{2, most})...)
		if d := s.one(0, units([2]int64{0, most / 7})...); d.Alone != most || d.Units != most/7 {
			t.Errorf("Alone %d of %d units, not 2^63 - 1", d.Alone, d.Units)
		}
	}
}

// P11.1: lines of a bundle, or of a series, that are amounts each, up to 2^63 - 1 together, and one unit further.
func TestTogetherOver(t *testing.T) {
	for _, tag := range []int{api.Bundle, api.Series} {
		s := costs(t, tag, 1, 1, 1)
		for _, c := range []struct {
			l    []int64
			want api.Errno
		}{
			{[]int64{most}, api.OK}, {[]int64{most - 1, 1}, api.OK}, {[]int64{1, most - 1}, api.OK}, {[]int64{1 << 62, 1<<62 - 1}, api.OK},
			{[]int64{1, most - 2, 1}, api.OK}, {[]int64{most, 1}, api.ErrOver}, {[]int64{1, most}, api.ErrOver}, {[]int64{1 << 62, 1 << 62}, api.ErrOver},
			{[]int64{most, most}, api.ErrOver}, {[]int64{1, most - 1, 1}, api.ErrOver}, {[]int64{most, most, 2}, api.ErrOver}, // 2^64 wraps to 0
			{[]int64{most, most, most, most, 5}, api.ErrOver}, {[]int64{1 << 62, 1 << 62, 1 << 62, 1 << 62, 3}, api.ErrOver},
			{slices.Repeat([]int64{most / 12}, 12), api.OK}, {append(slices.Repeat([]int64{most / 12}, 11), most/12+8), api.ErrOver},
			{append(slices.Repeat([]int64{most / 12}, 11), most/12+7), api.OK},
		} {
			var l [][2]int64
			for _, n := range c.l {
				l = append(l, [2]int64{0, n})
			}
			s.must(c.want, 0, units(l...)...)
			// Where they belong to others each, they are amounts.
			for i := range l {
				l[i][0] = 2
			}
			s.must(api.OK, 0, units(l...)...)
		}
	}
	// By prices that differ, of a bundle.
	s := costs(t, api.Bundle, 3, 5, 2)
	s.must(api.OK, 0, units([2]int64{0, most/3 - 4}, [2]int64{1, 2})...)
	s.must(api.ErrOver, 0, units([2]int64{0, most/3 - 3}, [2]int64{1, 3})...)
	s.must(api.ErrOver, 0, units([2]int64{1, 3}, [2]int64{0, most/3 - 3})...)
	if d := s.one(0, units([2]int64{0, (most - 10) / 3}, [2]int64{1, 2})...); d.Alone != most {
		t.Errorf("Alone %d, not 2^63 - 1", d.Alone)
	}
}

// P11.1: units are together no more than what they are worth alone, as each is worth 1 or more: they are amounts where Alone is one, up to 2^63 - 1.
func TestUnitsOver(t *testing.T) {
	for _, tag := range []int{api.Bundle, api.Series} {
		s := costs(t, tag, 1, 1, 2)
		if d := s.one(0, units([2]int64{0, most - 5}, [2]int64{0, 5})...); d.Units != most || d.Alone != most {
			t.Errorf("%d units, Alone %d, not 2^63 - 1", d.Units, d.Alone)
		}
		s.must(api.ErrOver, 0, units([2]int64{0, most - 5}, [2]int64{0, 6})...)
		s.must(api.ErrOver, 0, units([2]int64{0, 6}, [2]int64{0, most - 5})...)
	}
	s := costs(t, api.Distinct, 1, 1, 2)
	s.must(api.OK, 0, units([2]int64{0, most}, [2]int64{0, most}, [2]int64{1, most})...)
}

// P11.1: one obligation alone that is too great, the first one, the last one or one between.
func TestOneObligationOver(t *testing.T) {
	s := newShop(t,
		api.Item{Tag: api.Distinct, Price: 3},
		api.Item{Tag: api.Bundle, Group: 1, Price: 3},
		api.Item{Tag: api.Bundle, Group: 2, Price: 3},
		api.Item{Tag: api.Series, Price: 3})
	for place := range 8 {
		lines := units([2]int64{0, 1}, [2]int64{1, 1}, [2]int64{2, 1}, [2]int64{3, 1}, [2]int64{0, 1}, [2]int64{1, 1}, [2]int64{2, 1}, [2]int64{3, 1})
		lines[place].Units = most/3 - 1
		s.must(api.OK, 0, lines...)
		lines[place].Units = most/3 + 1
		s.must(api.ErrOver, 0, lines...)
	}
	for item := range int64(4) {
		fine, over := [2]int64{(item + 1) % 4, 1}, [2]int64{item, most}
		s.must(api.ErrOver, 0, units(over)...)
		s.must(api.ErrOver, 0, units(over, fine)...)
		s.must(api.ErrOver, 0, units(fine, over)...)
		s.must(api.ErrOver, 0, units(fine, over, fine)...)
	}
}

// P11.1: a price of the day makes it too great, or an amount again.
func TestOverByDay(t *testing.T) {
	s := costs(t, api.Bundle, 1, 1, 1)
	s.set(0, 10, 1<<40)
	s.set(0, 20, 2)
	lines := units([2]int64{0, 1 << 30}, [2]int64{1, 5})
	for day, want := range map[int]api.Errno{-1: api.ErrArg, 0: api.OK, 9: api.OK, 10: api.ErrOver, 19: api.ErrOver, 20: api.OK, 1000001: api.OK} {
		s.must(want, day, lines...)
	}
}
