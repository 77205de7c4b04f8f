package plot_test

import (
	"slices"
	"testing"

	"quitrent/api"
	"quitrent/plot"
)

// turn is the point by which points turn.
var turn = at(0, 1)

// lines are lists of points of all kinds.
func lines() [][]plot.Point {
	l := [][]plot.Point{nil, points(0, 0), points(2, 3), points(far, -far), corners(), slices.Repeat(corners(), mostPoints/4), plane(bounds())}
	c := newChance()
	for bits := range 21 {
		l = append(l, c.line(1+c.below(9), bits), c.line(mostPoints-c.below(9), bits))
	}
	return l
}

// made tells what a call answers, which is OK.
func made(t *testing.T, x call, l []plot.Point, by plot.Point) []plot.Point {
	t.Helper()
	got, errno := x.mustBe(t, l, by)
	if errno != api.OK {
		t.Fatalf("%s of %v by %v: %d", x.name, short(l), by, errno)
	}
	return got
}

// mustSame holds two lists against each other.
func mustSame(t *testing.T, name string, got, want []plot.Point) {
	t.Helper()
	if !slices.Equal(got, want) {
		t.Fatalf("%s: %v, not %v", name, short(got), short(want))
	}
}

// P21.3: four turns by 0, 1 are none; two are by -1, 0, three by 0, -1.
func TestFourTurns(t *testing.T) {
	for _, l := range lines() {
		once := made(t, times, l, turn)
		twice := made(t, times, once, turn)
		thrice := made(t, times, twice, turn)
		mustSame(t, "two turns", twice, made(t, times, l, at(-1, 0)))
		mustSame(t, "three turns", thrice, made(t, times, l, at(0, -1)))
		mustSame(t, "four turns", made(t, times, thrice, turn), l)
		mustSame(t, "a turn and back", made(t, times, once, at(0, -1)), l)
	}
}

// P21.3: twice the area of turned points is the same.
func TestAreaOfTurned(t *testing.T) {
	for _, l := range lines() {
		want, _ := area(t, l)
		for _, by := range points(1, 0, 0, 1, -1, 0, 0, -1) {
			mustArea(t, want, made(t, times, l, by))
		}
	}
}

// P21.3: of mirrored ones its sign is turned, also ahead of a turn and behind it.
func TestAreaOfMirrored(t *testing.T) {
	for _, l := range lines() {
		want, _ := area(t, l)
		m := made(t, mirror, l, at(0, 0))
		mustArea(t, -want, m)
		mustArea(t, want, made(t, mirror, m, at(0, 0)))
		mustArea(t, -want, made(t, times, m, turn))
		mustArea(t, -want, made(t, mirror, made(t, times, l, turn), at(0, 0)))
	}
}

// P21.3: times a point it is as many times more as that one's X and Y by themselves, together.
func TestAreaOfTimes(t *testing.T) {
	c := newChance()
	for range 5000 {
		bits := c.below(20)
		l, by := c.line(c.below(12), bits), c.point(19-bits)
		want, _ := area(t, l)
		mustArea(t, want*(by.X*by.X+by.Y*by.Y), made(t, times, l, by))
	}
	for _, by := range plane([]int64{-512, -511, -3, -1, 0, 1, 2, 500, 512}) {
		l := c.line(mostPoints, 10)
		want, _ := area(t, l)
		mustArea(t, want*(by.X*by.X+by.Y*by.Y), made(t, times, l, by))
	}
	mustArea(t, 2*far*far, made(t, times, points(far/2, 0, 0, far/2, -far/2, 0, 0, -far/2), at(1, 1)))
	mustArea(t, 8*far*far, made(t, times, points(1, 1, -1, 1, -1, -1, 1, -1), at(0, far)))
}

// P21.3: twice the area of moved points is the same.
func TestAreaOfMoved(t *testing.T) {
	c := newChance()
	for range 5000 {
		l, by := c.line(c.below(12), c.below(20)), c.point(c.below(20))
		want, _ := area(t, l)
		mustArea(t, want, made(t, moved, l, by))
	}
	square := points(0, 0, far, 0, far, far, 0, far)
	for _, by := range points(0, 0, -far, 0, 0, -far, -far, -far, -1, -7) {
		mustArea(t, 2*far*far, made(t, moved, square, by))
	}
}

// P21.2: of two points it doesn't count which one is first, times it and moved by it; also where it is refused.
func TestWhichIsFirst(t *testing.T) {
	edges := append(plane([]int64{-far, -1, 0, 1, 2, 1024, far - 1, far}), at(far+1, 0), at(0, least))
	c := newChance()
	for bits := range 21 {
		edges = append(edges, c.point(bits), c.point(bits))
	}
	for _, x := range []call{times, moved} {
		for _, p := range edges {
			for _, q := range edges {
				one, errno := x.mustBe(t, []plot.Point{p}, q)
				other, otherErrno := x.mustBe(t, []plot.Point{q}, p)
				if errno != otherErrno || !slices.Equal(one, other) {
					t.Fatalf("%s of %v, %v: %v, %d and %v, %d", x.name, p, q, one, errno, other, otherErrno)
				}
			}
		}
	}
}

// P21.2: points that are moved there and back, and mirrored twice, are as they were.
func TestThereAndBack(t *testing.T) {
	c := newChance()
	for range 2000 {
		l, by := c.line(c.below(12), c.below(20)), c.point(c.below(20))
		mustSame(t, "there and back", made(t, moved, made(t, moved, l, by), at(-by.X, -by.Y)), l)
	}
	for _, l := range lines() {
		mustSame(t, "by nothing", made(t, moved, l, at(0, 0)), l)
		mustSame(t, "by one", made(t, times, l, at(1, 0)), l)
		mustSame(t, "mirrored twice", made(t, mirror, made(t, mirror, l, at(0, 0)), at(0, 0)), l)
	}
}

// P21.2: times one and times another are times both; moved likewise; and times what is moved is moved by times.
func TestOneBehindTheOther(t *testing.T) {
	c := newChance()
	for range 5000 {
		l, p, q := c.line(c.below(9), 7), c.point(5), c.point(5)
		both := made(t, times, []plot.Point{p}, q)[0]
		mustSame(t, "times", made(t, times, made(t, times, l, p), q), made(t, times, l, both))
		sum := made(t, moved, []plot.Point{p}, q)[0]
		mustSame(t, "moved", made(t, moved, made(t, moved, l, p), q), made(t, moved, l, sum))
		mustSame(t, "times moved", made(t, times, made(t, moved, l, p), q), made(t, moved, made(t, times, l, q), both))
		mirrored := made(t, mirror, []plot.Point{p}, at(0, 0))[0]
		mustSame(t, "mirrored", made(t, mirror, made(t, times, l, p), at(0, 0)), made(t, times, made(t, mirror, l, at(0, 0)), mirrored))
	}
}

// P21.1, P21.2: stairs that are closed below have as twice the area their columns, twice.
func TestAreaOfStairs(t *testing.T) {
	c := newChance()
	for range 2000 {
		columns := make([]int64, c.below(mostColumns+1))
		sum, sums := int64(0), int64(0)
		for n := range columns {
			columns[n] = c.number(11)
			sum += columns[n]
			sums += sum
		}
		l, errno := stairs(t, columns)
		if errno != api.OK {
			t.Fatalf("Stairs of %v: %d", columns, errno)
		}
		mustArea(t, -2*sums, append(l, at(int64(len(columns)), 0)))
	}
}

// P21.2: mixed points by mixed ones, of all sizes, of which some may not be.
func TestMixed(t *testing.T) {
	c := newChance()
	seen := map[api.Errno]int{}
	for range 20000 {
		l := c.line(c.below(9), 5+c.below(17))
		by := c.point(c.below(22))
		for _, x := range all() {
			_, errno := x.mustBe(t, l, by)
			seen[errno]++
		}
	}
	for range 200 {
		l := c.line(mostPoints-4+c.below(8), 5+c.below(16))
		by := c.point(c.below(21))
		for _, x := range all() {
			_, errno := x.mustBe(t, l, by)
			seen[errno]++
		}
	}
	for errno, least := range map[api.Errno]int{api.OK: 5000, api.ErrOver: 5000, api.ErrArg: 2000, api.ErrFull: 100} {
		if seen[errno] < least {
			t.Fatalf("%v", seen)
		}
	}
}

// P21.2, R3: what a caller does with its list afterwards changes no answer, and an answer that it makes longer or writes over changes neither the list nor another answer.
func TestAnswersAreNew(t *testing.T) {
	for _, x := range all() {
		room := points(2, 3, -5, 7, 9, 9, 9, 9)
		l := room[:2]
		want, _ := x.model(l, at(1, 0))
		got, errno := x.do(l, at(1, 0))
		if errno != api.OK {
			t.Fatalf("%s: %d", x.name, errno)
		}
		longer := append(got, at(1, 1))
		mustSame(t, x.name, room, points(2, 3, -5, 7, 9, 9, 9, 9))
		clear(room)
		mustSame(t, x.name, got, want)
		clear(longer)
		clear(got)
		mustSame(t, x.name, made(t, x, points(2, 3, -5, 7), at(1, 0)), want)
		mustSame(t, x.name, made(t, x, l, at(0, 0)), made(t, x, points(0, 0, 0, 0), at(0, 0)))
	}
}

// P21.2, R4, R5: calls beside each other, also such as are refused, answer what each answers alone.
func TestCallsBesideEachOther(t *testing.T) {
	c := newChance()
	var kept, want [][]plot.Point
	for range 200 {
		for _, x := range all() {
			l, by := c.line(c.below(6), 9), c.point(9)
			model, _ := x.model(l, by)
			got, _ := x.do(l, by)
			kept, want = append(kept, got), append(want, model)
			x.refuses(t, api.ErrFull, make([]plot.Point, mostPoints+1), by)
			x.refuses(t, api.ErrArg, points(1, 1, 0, far+1), by)
			area(t, l)
			stairs(t, []int64{by.X, by.Y, far})
		}
	}
	for n := range kept {
		mustSame(t, "kept", kept[n], want[n])
	}
}
