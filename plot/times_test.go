package plot_test

import (
	"slices"
	"testing"

	"quitrent/api"
	"quitrent/plot"
)

// P21.2: the chapter's example.
func TestTimesExample(t *testing.T) {
	times.must(t, points(2, 3), at(0, 1), -3, 2)
}

// P21.2: no points, of both kinds, by what may be.
func TestOfNone(t *testing.T) {
	for _, x := range all() {
		for _, by := range plane(bounds()) {
			x.must(t, nil, by)
			x.must(t, points(), by)
			x.must(t, make([]plot.Point, 0, 5), by)
		}
	}
}

// P21.2: points by 0, 0 are 0, 0; by 1, 0 they stay; by 0, 1, by -1, 0 and by 0, -1 they turn.
func TestTimesByTurns(t *testing.T) {
	l := points(2, 3, -5, 7, 0, 0, far, -far, -far, far, far, far-1, 0, -far)
	times.must(t, l, at(0, 0), 0, 0, 0, 0, 0, 0, 0, 0, 0, 0, 0, 0, 0, 0)
	times.must(t, l, at(1, 0), 2, 3, -5, 7, 0, 0, far, -far, -far, far, far, far-1, 0, -far)
	times.must(t, l, at(0, 1), -3, 2, -7, -5, 0, 0, far, far, -far, -far, 1-far, far, far, 0)
	times.must(t, l, at(-1, 0), -2, -3, 5, -7, 0, 0, -far, far, far, -far, -far, 1-far, 0, far)
	times.must(t, l, at(0, -1), 3, -2, 7, 5, 0, 0, -far, -far, far, far, far-1, -far, -far, 0)
}

// P21.2: points by others, by hand.
func TestTimesByHand(t *testing.T) {
	times.must(t, points(1, 2), at(3, 4), -5, 10)
	times.must(t, points(3, -4), at(3, 4), 25, 0)
	times.must(t, points(1, 1), at(1, 1), 0, 2)
	times.must(t, points(-1, 2, 3, -4), at(-5, 6), -7, -16, 9, 38)
	times.must(t, points(1000, 20), at(1000, 30), 999400, 50000)
	times.must(t, points(1023, 1), at(1025, 0), far-1, 1025)
	times.must(t, points(1024, 0, 0, 1024), at(1024, 0), far, 0, 0, far)
	times.must(t, points(1024, 0, 0, 1024), at(0, 1024), 0, far, -far, 0)
	times.must(t, points(724, 724), at(724, -724), 2*724*724, 0)
}

// P21.2: points moved by others, by hand, and by 0, 0.
func TestMovedByHand(t *testing.T) {
	l := points(2, 3, -5, 7, 0, 0)
	moved.must(t, l, at(0, 0), 2, 3, -5, 7, 0, 0)
	moved.must(t, l, at(10, -1), 12, 2, 5, 6, 10, -1)
	moved.must(t, l, at(-2, -3), 0, 0, -7, 4, -2, -3)
	moved.must(t, points(far, -far, 0, 0), at(-far, far), 0, 0, -far, far)
	moved.must(t, points(-far, -far), at(far, far), 0, 0)
	moved.must(t, points(far, -far), at(0, 0), far, -far)
}

// P21.2: Mirror turns Y's sign alone, of 0 and of the greatest and the least, too.
func TestMirrorByHand(t *testing.T) {
	mirror.must(t, points(2, 3), at(0, 0), 2, -3)
	mirror.must(t, points(2, -3, -2, 3, -2, -3), at(0, 0), 2, 3, -2, -3, -2, 3)
	mirror.must(t, points(5, 0, 0, 0, -5, 0), at(0, 0), 5, 0, 0, 0, -5, 0)
	mirror.must(t, points(7, far, 7, -far, far, 1, -far, -1), at(0, 0), 7, -far, 7, far, far, -1, -far, 1)
	mirror.must(t, points(far, far, -far, -far), at(0, 0), far, -far, -far, far)
}

// P21.2: each point of the plane's edges, by each.
func TestEachByEach(t *testing.T) {
	seen := map[api.Errno]int{}
	for _, x := range all() {
		for _, p := range plane(bounds()) {
			for _, by := range plane(bounds()) {
				_, errno := x.mustBe(t, []plot.Point{p}, by)
				seen[errno]++
			}
		}
	}
	if seen[api.OK] < 100000 || seen[api.ErrOver] < 100000 {
		t.Fatalf("%v", seen)
	}
}

// P21.2: one, two, 1000 points and those between, each with its own answer at its own place.
func TestOfMany(t *testing.T) {
	for _, x := range all() {
		for many := range mostPoints + 1 {
			if many > 40 && many%37 != 0 && many < mostPoints-3 {
				continue
			}
			l := make([]plot.Point, many)
			for i := range l {
				l[i] = at(int64(3*i+1), int64(-7*i-2))
			}
			for _, by := range []plot.Point{at(0, 1), at(2, -3), at(-11, 5)} {
				if got, errno := x.mustBe(t, l, by); errno != api.OK || len(got) != many {
					t.Fatalf("%s of %d by %v: %d, %d", x.name, many, by, len(got), errno)
				}
			}
		}
	}
}

// sized is a call of a point by another one, and how far from 0 its answer is: the greater of X and Y, without signs.
type sized struct {
	x     call
	p, by plot.Point
	want  int64
}

// turned tells it in all four directions.
func (s sized) turned() []sized {
	l := []sized{s}
	if s.x.name == times.name {
		l = append(l, sized{s.x, at(-s.p.Y, s.p.X), s.by, s.want}, sized{s.x, at(-s.p.X, -s.p.Y), s.by, s.want}, sized{s.x, at(s.p.Y, -s.p.X), s.by, s.want})
		return l
	}
	return append(l, sized{s.x, at(s.p.Y, s.p.X), at(s.by.Y, s.by.X), s.want}, sized{s.x, at(-s.p.X, -s.p.Y), at(-s.by.X, -s.by.Y), s.want}, sized{s.x, at(-s.p.Y, -s.p.X), at(-s.by.Y, -s.by.X), s.want})
}

// nearBounds are answers that are just 2^20, one more and one less, in all four directions.
func nearBounds() []sized {
	var l []sized
	for _, s := range []sized{
		{times, at(far-1, 0), at(1, 0), far - 1}, {times, at(far, 0), at(1, 0), far}, {times, at(far, 0), at(0, 1), far},
		{times, at(far/2, 1), at(2, 0), far}, {times, at(far/2, 1), at(2, 1), far - 1}, {times, at(far/2, 1), at(2, -1), far + 1},
		{times, at(17, 0), at(61681, 0), far + 1}, {times, at(61681, 1), at(17, 1), far}, {times, at(61681, 2), at(17, 1), far - 1},
		{times, at(1023, 0), at(1025, 0), far - 1}, {times, at(1023, 1), at(1025, -1), far}, {times, at(1023, 2), at(1025, -1), far + 1},
		{times, at(419430, -209715), at(2, 1), far - 1}, {times, at(419430, -209716), at(2, 1), far}, {times, at(419430, -209717), at(2, 1), far + 1}, {times, at(419431, -209715), at(2, 1), far + 1},
		{moved, at(far-1, 0), at(0, 0), far - 1}, {moved, at(far-1, 0), at(1, 0), far}, {moved, at(far-1, 0), at(2, 0), far + 1},
		{moved, at(far, 0), at(-1, 0), far - 1}, {moved, at(far, 0), at(0, 0), far}, {moved, at(far, 0), at(1, 0), far + 1},
		{moved, at(1, 5), at(far-2, 5), far - 1}, {moved, at(1, 5), at(far-1, 5), far}, {moved, at(1, 5), at(far, 5), far + 1}, {moved, at(far/2, -3), at(far/2+1, 3), far + 1},
		{moved, at(far/2, -3), at(far/2, 3), far}, {moved, at(far/2, -3), at(far/2-1, 3), far - 1}, {moved, at(far, far), at(far, -far), 2 * far}, {moved, at(far, 0), at(far-1, 1), 2*far - 1},
	} {
		l = append(l, s.turned()...)
	}
	return l
}

// P21.2: answers at the bounds, and one more and one less, of the first point, one in the middle and the last.
func TestAnswersAtTheBounds(t *testing.T) {
	seen := map[api.Errno]int{}
	for _, s := range nearBounds() {
		for _, many := range []int{1, 2, 3, 50, mostPoints} {
			for _, place := range []int{0, many / 2, many - 1} {
				l := make([]plot.Point, many)
				l[place] = s.p
				got, errno := s.x.mustBe(t, l, s.by)
				seen[errno]++
				if (errno == api.OK) != (s.want <= far) || (errno == api.ErrOver) != (s.want > far) {
					t.Fatalf("%s of %v by %v at %d of %d: %d", s.x.name, s.p, s.by, place, many, errno)
				}
				if errno == api.OK && !slices.Contains([]int64{got[place].X, got[place].Y, -got[place].X, -got[place].Y}, s.want) {
					t.Fatalf("%s of %v by %v at %d of %d: %v", s.x.name, s.p, s.by, place, many, got[place])
				}
			}
		}
	}
	if seen[api.OK] < 500 || seen[api.ErrOver] < 300 {
		t.Fatalf("%v", seen)
	}
}

// P21.2: points and a by of the greatest size, whose answer is far too great, and is 0 in fewer bits.
func TestTimesOfTheGreatest(t *testing.T) {
	corners := points(far, far, far, -far, -far, far, -far, -far, far, 0, 0, far, -far, 0, 0, -far)
	for _, p := range corners {
		for _, by := range corners {
			times.refuses(t, api.ErrOver, []plot.Point{p}, by)
			times.refuses(t, api.ErrOver, append(points(0, 0, 0, 0), p), by)
			times.refuses(t, api.ErrOver, slices.Repeat([]plot.Point{p}, mostPoints), by)
		}
		times.refuses(t, api.ErrOver, []plot.Point{p}, at(1<<12, 0))
		times.refuses(t, api.ErrOver, []plot.Point{p}, at(0, 1<<12))
		times.refuses(t, api.ErrOver, []plot.Point{p}, at(2, 0))
		times.refuses(t, api.ErrOver, []plot.Point{p}, at(0, -2))
	}
	times.refuses(t, api.ErrOver, points(far, 1), at(far, 0))
	times.refuses(t, api.ErrOver, points(1, far), at(0, far))
}

// P21.2: an answer is exact in each of its digits, wherever it may be: of points of all sizes by such as leave it as great as may be.
func TestTimesIsExact(t *testing.T) {
	c := newChance()
	seen := map[api.Errno]int{}
	for range 200000 {
		bits := c.below(21)
		_, errno := times.mustBe(t, []plot.Point{c.point(bits)}, c.point(20-bits))
		seen[errno]++
	}
	if seen[api.OK] < 50000 || seen[api.ErrOver] < 10000 || len(seen) != 2 {
		t.Fatalf("%v", seen)
	}
}

// P21.2: each answer on a line across the bound, of a point by 1, 1 and by 3, -2.
func TestTimesAcrossTheBound(t *testing.T) {
	for n := int64(-30); n <= 30; n++ {
		for m := int64(-30); m <= 30; m++ {
			times.mustBe(t, points(far/2+n, far/2+m), at(1, 1))
			times.mustBe(t, points(far/2+n, m-far/2), at(1, 1))
			times.mustBe(t, points(far/5+n, far/5+m), at(3, -2))
			times.mustBe(t, points(-far/5+n, far/5+m), at(3, -2))
			moved.mustBe(t, points(far/2+n, far/2+m), at(far/2, far/2))
			moved.mustBe(t, points(n-far/2, m-far/2), at(-far/2, -far/2))
		}
	}
}
