package plot_test

import (
	"math"
	"math/big"
	"slices"
	"testing"

	"quitrent/api"
	"quitrent/plot"
)

const (
	far         = 1 << 20
	mostColumns = 240
	mostPoints  = 1000
	most        = math.MaxInt64
	least       = math.MinInt64
)

// at tells a point.
func at(x, y int64) plot.Point { return plot.Point{X: x, Y: y} }

// points tells points of pairs of numbers.
func points(numbers ...int64) []plot.Point {
	var l []plot.Point
	for i := 0; i < len(numbers); i += 2 {
		l = append(l, at(numbers[i], numbers[i+1]))
	}
	return l
}

// inBounds tells whether a number may be a point's, by the chapter's words.
func inBounds(n int64) bool { return -far <= n && n <= far }

// mayBe tells whether a point may be, by the chapter's words.
func mayBe(p plot.Point) bool { return inBounds(p.X) && inBounds(p.Y) }

// beyond are numbers that may not be a point's: just beyond, such as look otherwise in fewer bits or as floats, and the greatest and the least.
func beyond() []int64 {
	l := []int64{most, most - 1, least, least + 1}
	for _, n := range []int64{far + 1, far + 2, 1 << 21, 1 << 31, 1<<32 - 1, 1 << 32, 1<<32 + 1, 1<<52 + 1, 1 << 53, 1<<53 + 1, 1 << 62, 1<<62 + 1} {
		l = append(l, n, -n)
	}
	return l
}

// bounds are numbers that may be a point's: the greatest and the least, 0, and others.
func bounds() []int64 {
	return []int64{-far, -far + 1, -1025, -1024, -1023, -3, -2, -1, 0, 1, 2, 3, 724, 1023, 1024, 1025, far - 1, far}
}

// plane tells the points that these numbers are, each with each.
func plane(numbers []int64) []plot.Point {
	var l []plot.Point
	for _, x := range numbers {
		for _, y := range numbers {
			l = append(l, at(x, y))
		}
	}
	return l
}

// call is a call that makes a point of each point, and what it makes of one by the chapter's words.
type call struct {
	name string
	do   func(l []plot.Point, by plot.Point) ([]plot.Point, api.Errno)
	one  func(p, by plot.Point) plot.Point
	// alone is a call that isn't by any point.
	alone bool
}

// times, moved and mirror are the three.
var (
	times = call{"Times", plot.Times, func(p, by plot.Point) plot.Point {
		return at(p.X*by.X-p.Y*by.Y, p.Y*by.X+p.X*by.Y)
	}, false}
	moved = call{"Moved", plot.Moved, func(p, by plot.Point) plot.Point {
		return at(p.X+by.X, p.Y+by.Y)
	}, false}
	mirror = call{"Mirror", func(l []plot.Point, _ plot.Point) ([]plot.Point, api.Errno) {
		return plot.Mirror(l)
	}, func(p, _ plot.Point) plot.Point {
		return at(p.X, -p.Y)
	}, true}
)

// all are the three calls.
func all() []call { return []call{times, moved, mirror} }

// model tells what a call answers, by the chapter's words.
func (x call) model(l []plot.Point, by plot.Point) ([]plot.Point, api.Errno) {
	if len(l) > mostPoints {
		return nil, api.ErrFull
	}
	for _, p := range l {
		if !mayBe(p) {
			return nil, api.ErrArg
		}
	}
	if !x.alone && !mayBe(by) {
		return nil, api.ErrArg
	}
	var answer []plot.Point
	for _, p := range l {
		n := x.one(p, by)
		if !mayBe(n) {
			return nil, api.ErrOver
		}
		answer = append(answer, n)
	}
	return answer, api.OK
}

// mustBe holds a call against the model, asks it twice, and holds whether the list stays as it was, and whether an answer that is written over leaves the others alone.
func (x call) mustBe(t *testing.T, l []plot.Point, by plot.Point) ([]plot.Point, api.Errno) {
	t.Helper()
	want, wantErrno := x.model(l, by)
	was := slices.Clone(l)
	first, errno := x.do(l, by)
	second, again := x.do(l, by)
	if errno != wantErrno || again != wantErrno || !slices.Equal(first, want) || !slices.Equal(second, want) {
		t.Fatalf("%s of %v by %v: %v, %d and %v, %d, not %v, %d", x.name, short(was), by, short(first), errno, short(second), again, short(want), wantErrno)
	}
	if errno != api.OK && (first != nil || second != nil) {
		t.Fatalf("%s of %v by %v: %v beside %d", x.name, short(was), by, first, errno)
	}
	for i := range first {
		first[i] = at(77, -77)
	}
	if !slices.Equal(l, was) || !slices.Equal(second, want) {
		t.Fatalf("%s of %v by %v: the list or an answer is changed", x.name, short(was), by)
	}
	return second, errno
}

// must holds a call of points that are told as numbers against an answer that is told likewise.
func (x call) must(t *testing.T, l []plot.Point, by plot.Point, want ...int64) {
	t.Helper()
	if got, errno := x.mustBe(t, l, by); errno != api.OK || !slices.Equal(got, points(want...)) {
		t.Fatalf("%s of %v by %v: %v, %d, not %v", x.name, short(l), by, short(got), errno, want)
	}
}

// refuses holds a call against an error.
func (x call) refuses(t *testing.T, want api.Errno, l []plot.Point, by plot.Point) {
	t.Helper()
	if _, errno := x.mustBe(t, l, by); errno != want {
		t.Fatalf("%s of %v by %v: %d, not %d", x.name, short(l), by, errno, want)
	}
}

// short tells the first few points alone, so that a remark can be read.
func short(l []plot.Point) []plot.Point { return l[:min(len(l), 20)] }

// areaOf tells twice the area, by other words than the chapter's: of each point, X by what Y grows around it.
func areaOf(l []plot.Point) (int64, api.Errno) {
	if len(l) > mostPoints {
		return 0, api.ErrFull
	}
	sum := new(big.Int)
	for i, p := range l {
		if !mayBe(p) {
			return 0, api.ErrArg
		}
		ahead, behind := l[(i+len(l)-1)%len(l)], l[(i+1)%len(l)]
		grown := new(big.Int).Sub(big.NewInt(behind.Y), big.NewInt(ahead.Y))
		sum.Add(sum, grown.Mul(grown, big.NewInt(p.X)))
	}
	return sum.Int64(), api.OK
}

// area holds Area against the model, asks it twice, and holds whether the list stays as it was.
func area(t *testing.T, l []plot.Point) (int64, api.Errno) {
	t.Helper()
	want, wantErrno := areaOf(l)
	was := slices.Clone(l)
	for range 2 {
		if got, errno := plot.Area(l); got != want || errno != wantErrno {
			t.Fatalf("Area of %v: %d, %d, not %d, %d", short(was), got, errno, want, wantErrno)
		}
		if !slices.Equal(l, was) {
			t.Fatalf("Area of %v: the list is changed", short(was))
		}
	}
	return want, wantErrno
}

// mustArea holds Area against a number.
func mustArea(t *testing.T, want int64, l []plot.Point) {
	t.Helper()
	if got, errno := area(t, l); got != want || errno != api.OK {
		t.Fatalf("Area of %v: %d, %d, not %d", short(l), got, errno, want)
	}
}

// refusesArea holds Area against an error.
func refusesArea(t *testing.T, want api.Errno, l []plot.Point) {
	t.Helper()
	if got, errno := area(t, l); got != 0 || errno != want {
		t.Fatalf("Area of %v: %d, %d, not %d", short(l), got, errno, want)
	}
}

// stairsOf tells the stairs, by the chapter's words and with sums of any size.
func stairsOf(columns []int64) ([]plot.Point, api.Errno) {
	if len(columns) > mostColumns {
		return nil, api.ErrFull
	}
	l := points(0, 0)
	for n := 1; n <= len(columns); n++ {
		sum := new(big.Int)
		for _, column := range columns[:n] {
			sum.Add(sum, big.NewInt(column))
		}
		if !sum.IsInt64() || !inBounds(sum.Int64()) {
			return nil, api.ErrOver
		}
		l = append(l, at(int64(n-1), sum.Int64()), at(int64(n), sum.Int64()))
	}
	return l, api.OK
}

// stairs holds Stairs against the model, asks it twice, and holds whether the list stays as it was, and whether an answer that is written over leaves the other alone.
func stairs(t *testing.T, columns []int64) ([]plot.Point, api.Errno) {
	t.Helper()
	want, wantErrno := stairsOf(columns)
	was := slices.Clone(columns)
	first, errno := plot.Stairs(columns)
	second, again := plot.Stairs(columns)
	if errno != wantErrno || again != wantErrno || !slices.Equal(first, want) || !slices.Equal(second, want) {
		t.Fatalf("Stairs of %v: %v, %d and %v, %d, not %v, %d", was, first, errno, second, again, want, wantErrno)
	}
	if errno != api.OK && (first != nil || second != nil) {
		t.Fatalf("Stairs of %v: %v beside %d", was, first, errno)
	}
	for i := range first {
		first[i] = at(77, -77)
	}
	if !slices.Equal(columns, was) || !slices.Equal(second, want) {
		t.Fatalf("Stairs of %v: the list or an answer is changed", was)
	}
	return second, errno
}

// mustStairs holds Stairs against points that are told as numbers.
func mustStairs(t *testing.T, columns []int64, want ...int64) {
	t.Helper()
	if got, errno := stairs(t, columns); errno != api.OK || !slices.Equal(got, points(want...)) {
		t.Fatalf("Stairs of %v: %v, %d, not %v", columns, got, errno, want)
	}
}

// refusesStairs holds Stairs against an error.
func refusesStairs(t *testing.T, want api.Errno, columns ...int64) {
	t.Helper()
	if _, errno := stairs(t, columns); errno != want {
		t.Fatalf("Stairs of %v: %d, not %d", columns, errno, want)
	}
}

// chance tells numbers that look like chance, the same ones each time.
type chance uint64

// newChance tells where all of them begin.
func newChance() *chance {
	c := chance(88172645463325252)
	return &c
}

// next tells 64 bits.
func (c *chance) next() uint64 {
	*c ^= *c << 13
	*c ^= *c >> 7
	*c ^= *c << 17
	return uint64(*c)
}

// below tells a number from 0 on.
func (c *chance) below(n int) int { return int(c.next() >> 1 % uint64(n)) }

// number tells a number of either sign with so many bits.
func (c *chance) number(bits int) int64 { return int64(c.next()) >> (63 - bits) }

// point tells a point of such numbers.
func (c *chance) point(bits int) plot.Point { return at(c.number(bits), c.number(bits)) }

// line tells so many points of such numbers.
func (c *chance) line(many, bits int) []plot.Point {
	l := make([]plot.Point, many)
	for i := range l {
		l[i] = c.point(bits)
	}
	return l
}
