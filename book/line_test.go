package book_test

import (
	"math"
	"slices"
	"testing"

	"quitrent/api"
)

// plainLine is a line that may be, of a book of one item or more.
func plainLine() api.Line {
	return api.Line{Item: 0, Units: 2, Charge: 3, First: 10, Last: 20}
}

// few is a book of three items, of which the first one has prices that were set.
func few(t *testing.T) *pair {
	t.Helper()
	p := newPair(t, priced(100, 1, most)...)
	p.must(api.OK, p.set(0, 10, 120))
	p.must(api.OK, p.set(0, 20, 80))
	return p
}

// turned are lines with one field at its bounds, and beyond, each with whether it may be.
func turned() map[api.Line]int {
	l := map[api.Line]int{}
	lay := func(may int, change func(x *api.Line)) {
		x := plainLine()
		change(&x)
		l[x] = may
	}
	for item, may := range map[int]int{math.MinInt: 0, -1: 0, 0: 1, 1: 1, 2: 1, 3: 0, 4: 0, 40: 0, math.MaxInt: 0} {
		lay(may, func(x *api.Line) { x.Item = item })
	}
	for units, may := range map[int64]int{math.MinInt64: 0, -1: 0, 0: 0, 1: 1, 2: 1, most: 1} {
		lay(may, func(x *api.Line) { x.Units = units })
	}
	for charge, may := range map[int64]int{math.MinInt64: 0, -1: 0, 0: 1, 1: 1, most: 1} {
		lay(may, func(x *api.Line) { x.Charge = charge })
	}
	for days, may := range map[[2]int]int{
		{math.MinInt, 20}: 0, {-1, 20}: 0, {0, 20}: 0, {1, 20}: 1, {19, 20}: 1, {20, 20}: 1, {21, 20}: 0,
		{1, 1}: 1, {1, 2}: 1, {2, 1}: 0, {0, 0}: 0, {0, 1}: 0, {-1, 0}: 0, {1, 0}: 0, {-2, -1}: 0,
		{1, 1000000}: 1, {999999, 1000000}: 1, {1000000, 1000000}: 1, {1000000, 999999}: 0,
		{1, 1000001}: 0, {1000000, 1000001}: 0, {1000001, 1000001}: 0, {1000001, 1000000}: 0, {1000001, 1}: 0,
		{1, math.MaxInt}: 0, {math.MaxInt, math.MaxInt}: 0, {math.MinInt, math.MaxInt}: 0, {math.MaxInt, math.MinInt}: 0,
	} {
		lay(may, func(x *api.Line) { x.First, x.Last = days[0], days[1] })
	}
	return l
}

// P10.1: lines with each field at its bounds, and beyond, at each place of a list.
func TestWhichLines(t *testing.T) {
	p := few(t)
	for x, may := range turned() {
		want := api.OK
		if may == 0 {
			want = api.ErrArg
		}
		p.must(want, p.check(x))
		for place := range 3 {
			l := slices.Repeat([]api.Line{plainLine()}, 3)
			l[place] = x
			p.must(want, p.check(l...))
		}
	}
	p.same()
}

// P10.1: no line, each number up to MostLines, and more; too many of which one may not be.
func TestHowManyLines(t *testing.T) {
	p := few(t)
	p.must(api.ErrArg, p.check())
	p.must(api.ErrArg, p.b.Check([]api.Line{}))
	for many := 1; many < 30; many++ {
		want := api.OK
		if many > 12 {
			want = api.ErrFull
		}
		l := slices.Repeat([]api.Line{plainLine()}, many)
		p.must(want, p.check(l...))
		if many <= 12 {
			want = api.ErrArg
		}
		for place := range many {
			short := slices.Clone(l)
			short[place] = api.Line{}
			p.must(want, p.check(short...))
		}
	}
}

// P10.1: of a book of no item no line may be.
func TestLinesOfNoItem(t *testing.T) {
	p := newPair(t)
	p.must(api.ErrArg, p.check())
	p.must(api.ErrArg, p.check(plainLine()))
	p.must(api.ErrFull, p.check(slices.Repeat([]api.Line{plainLine()}, 13)...))
	p.must(api.ErrArg, p.alone(plainLine(), 0))
	p.same()
}

// R3: Check leaves the lines as they were.
func TestCheckLeaves(t *testing.T) {
	p := few(t)
	l := []api.Line{plainLine(), {Item: 2, Units: 1, First: 1, Last: 1}, {Item: 1, Units: 5, Charge: 6, First: 7, Last: 8}}
	before := slices.Clone(l)
	p.must(api.OK, p.check(l...))
	l[1].Units = 0
	before[1].Units = 0
	p.must(api.ErrArg, p.check(l...))
	if !slices.Equal(l, before) {
		t.Fatal("lines changed")
	}
}

// P10.3: of a line that may be what its item is at a day, times its Units, whatever else it has; of others ErrArg.
func TestAlone(t *testing.T) {
	p := few(t)
	for x, may := range turned() {
		for _, day := range []int{math.MinInt, -1, 0, 1, 9, 10, 11, 19, 20, 21, 1000000, 1000001, math.MaxInt} {
			errno := p.alone(x, day)
			if arg := may == 0 || day < 0; arg != (errno == api.ErrArg) {
				t.Fatalf("Alone of %v, %d: %d", x, day, errno)
			}
		}
	}
	for day, want := range map[int]int64{0: 200, 9: 200, 10: 240, 19: 240, 20: 160, math.MaxInt: 160} {
		x := plainLine()
		if got, errno := p.b.Alone(x, day); got != want || errno != api.OK {
			t.Fatalf("Alone at %d: %d, %d", day, got, errno)
		}
		x.Charge, x.First, x.Last = 0, 1, 1
		if got, errno := p.b.Alone(x, day); got != want || errno != api.OK {
			t.Fatalf("Alone at %d, of another Charge and days: %d, %d", day, got, errno)
		}
	}
}

// P10.3: where the price times the Units is 2^63 - 1, and further.
func TestAloneOver(t *testing.T) {
	pairs := []struct{ price, units int64 }{
		{most, 1}, {1, most}, {7, most / 7}, {most / 7, 7}, {73 * 127, most / (73 * 127)}, {most / 337, 337}, {1 << 31, 1 << 32}, {1<<31 - 1, 1 << 32}, {3037000499, 3037000499}, {3037000500, 3037000500}, {most / 2, 2}, {2, most / 2}, {1 << 62, 2}, {2, 1 << 62}, {most, most}, {most, 2}, {2, most},
	}
	seen := map[api.Errno]int{}
	for _, c := range pairs {
		own, laid := newPair(t, priced(c.price)...), newPair(t, priced(1)...)
		laid.must(api.OK, laid.set(0, 5, c.price))
		for _, more := range []int64{-1, 0, 1} {
			x := plainLine()
			x.Units = c.units + more // it wraps to one that may not be, at times
			seen[own.alone(x, 0)]++
			seen[laid.alone(x, 5)]++
			laid.alone(x, 4) // it costs 1 there still
		}
	}
	for _, errno := range []api.Errno{api.OK, api.ErrOver, api.ErrArg} {
		if seen[errno] < 4 {
			t.Errorf("error %d came %d times", errno, seen[errno])
		}
	}
	p := newPair(t, priced(7)...)
	x := plainLine()
	x.Units = most / 7
	if got, errno := p.b.Alone(x, 0); got != most || errno != api.OK {
		t.Fatalf("Alone of 2^63 - 1: %d, %d", got, errno)
	}
	x.Units++
	if got, errno := p.b.Alone(x, 0); got != 0 || errno != api.ErrOver {
		t.Fatalf("Alone of one unit further: %d, %d", got, errno)
	}
	// ErrArg comes first.
	p.must(api.ErrArg, p.alone(x, -1))
	x.Charge = -1
	p.must(api.ErrArg, p.alone(x, 0))
}
