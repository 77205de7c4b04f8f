package plot_test

import (
	"slices"
	"testing"

	"quitrent/api"
	"quitrent/plot"
)

// wrong are points that may not be: X, Y or both are beyond.
func wrong() []plot.Point {
	var l []plot.Point
	for _, n := range beyond() {
		l = append(l, at(n, 0), at(0, n), at(n, 5), at(-5, n), at(n, far), at(-far, n), at(n, n), at(n, -n), at(most, n), at(n, least))
	}
	return l
}

// P21.2: a point that may not be is ErrArg, alone and with others, the first, one in the middle and the last.
func TestWrongPoints(t *testing.T) {
	for _, p := range wrong() {
		for _, x := range all() {
			x.refuses(t, api.ErrArg, []plot.Point{p}, at(1, 0))
			x.refuses(t, api.ErrArg, []plot.Point{p}, at(0, 0))
			x.refuses(t, api.ErrArg, []plot.Point{p, p}, at(0, 0))
		}
		refusesArea(t, api.ErrArg, []plot.Point{p})
		refusesArea(t, api.ErrArg, []plot.Point{p, p})
		for _, many := range []int{2, 3, 7, mostPoints} {
			l := make([]plot.Point, many)
			for _, place := range []int{0, many / 2, many - 1} {
				clear(l)
				l[place] = p
				for _, x := range all() {
					x.refuses(t, api.ErrArg, l, at(0, 1))
				}
				refusesArea(t, api.ErrArg, l)
			}
		}
	}
}

// P21.2: a by that may not be is ErrArg, also with no points at all, and with points that it would leave as they are.
func TestWrongBy(t *testing.T) {
	for _, by := range wrong() {
		for _, x := range []call{times, moved} {
			x.refuses(t, api.ErrArg, nil, by)
			x.refuses(t, api.ErrArg, points(), by)
			x.refuses(t, api.ErrArg, points(0, 0), by)
			x.refuses(t, api.ErrArg, points(1, 2, 3, 4), by)
			x.refuses(t, api.ErrArg, points(far, -far), by)
			x.refuses(t, api.ErrArg, make([]plot.Point, mostPoints), by)
			x.refuses(t, api.ErrArg, []plot.Point{by}, by)
		}
	}
}

// P21.2: X and Y that are just 2^20 and -2^20 may be, one less also, one more not, of points and of by.
func TestBoundsOfPoints(t *testing.T) {
	for _, n := range []int64{far - 1, far, 1 - far, -far} {
		for _, p := range points(n, 0, 0, n, n, n, n, -n) {
			times.must(t, []plot.Point{p}, at(1, 0), p.X, p.Y)
			times.must(t, points(1, 0), p, p.X, p.Y)
			times.must(t, nil, p)
			moved.must(t, []plot.Point{p}, at(0, 0), p.X, p.Y)
			moved.must(t, points(0, 0), p, p.X, p.Y)
			moved.must(t, nil, p)
			mirror.must(t, []plot.Point{p}, at(0, 0), p.X, -p.Y)
			mustArea(t, 0, []plot.Point{p})
		}
	}
	for _, n := range []int64{far + 1, -far - 1} {
		for _, p := range points(n, 0, 0, n, n, n, n, -n, n, far, -far, n) {
			for _, x := range []call{times, moved} {
				x.refuses(t, api.ErrArg, []plot.Point{p}, at(0, 0))
				x.refuses(t, api.ErrArg, points(0, 0), p)
				x.refuses(t, api.ErrArg, nil, p)
			}
			mirror.refuses(t, api.ErrArg, []plot.Point{p}, at(0, 0))
			refusesArea(t, api.ErrArg, []plot.Point{p})
		}
	}
}

// P21.2: more than 1000 points are ErrFull, also where one of them or by may not be, or an answer.
func TestTooMany(t *testing.T) {
	bys := points(0, 0, 1, 0, far, far, far+1, 0, 0, -far-1, most, least, least, most)
	for _, many := range []int{mostPoints + 1, mostPoints + 2, 2 * mostPoints, 1 << 16} {
		for _, p := range points(0, 0, 5, -7, far, far, far+1, 0, 0, -far-1, most, most, least, least) {
			lists := [][]plot.Point{slices.Repeat([]plot.Point{p}, many)}
			for _, place := range []int{0, many / 2, mostPoints, many - 1} {
				l := make([]plot.Point, many)
				l[place] = p
				lists = append(lists, l)
			}
			for _, l := range lists {
				for _, by := range bys {
					for _, x := range all() {
						if got, errno := x.do(l, by); got != nil || errno != api.ErrFull {
							t.Fatalf("%s of %d by %v: %v, %d", x.name, many, by, short(got), errno)
						}
					}
				}
				refusesArea(t, api.ErrFull, l)
			}
		}
	}
}

// P21.2, R2: ErrArg comes ahead of ErrOver, whichever of the points may not be.
func TestArgAheadOfOver(t *testing.T) {
	over := at(far, far)
	for _, p := range points(far+1, 0, 0, -far-1, most, 0, least, least) {
		for _, many := range []int{2, 3, 10, mostPoints} {
			for _, place := range []int{0, many / 2, many - 1} {
				l := slices.Repeat([]plot.Point{over}, many)
				times.refuses(t, api.ErrOver, l, at(far, far))
				moved.refuses(t, api.ErrOver, l, at(far, far))
				times.refuses(t, api.ErrArg, l, p)
				moved.refuses(t, api.ErrArg, l, p)
				l[place] = p
				for _, x := range all() {
					x.refuses(t, api.ErrArg, l, at(far, far))
					x.refuses(t, api.ErrArg, l, p)
				}
				refusesArea(t, api.ErrArg, l)
			}
		}
	}
}

// P21.2: one of many answers that may not be is ErrOver, and nothing is told of the others.
func TestOneIsOver(t *testing.T) {
	for _, many := range []int{1, 2, 3, 10, mostPoints} {
		for _, place := range []int{0, many / 2, many - 1} {
			for _, p := range points(far, 0, -far, 0, 0, far, 0, -far) {
				l := make([]plot.Point, many)
				l[place] = p
				times.refuses(t, api.ErrOver, l, at(2, 0))
				times.refuses(t, api.ErrOver, l, at(0, 2))
				times.refuses(t, api.ErrOver, l, at(far, far))
				moved.refuses(t, api.ErrOver, l, at(p.X/far, p.Y/far))
				moved.refuses(t, api.ErrOver, l, p)
				if _, errno := moved.mustBe(t, l, at(p.Y/far, p.X/far)); errno != api.OK {
					t.Fatalf("Moved %v at %d of %d: %d", p, place, many, errno)
				}
				if _, errno := mirror.mustBe(t, l, at(0, 0)); errno != api.OK {
					t.Fatalf("Mirror of %v at %d of %d: %d", p, place, many, errno)
				}
			}
		}
	}
}

// P21.2: points and bys of all kinds, each with each: as many as the edges are.
func TestRowsOfWrong(t *testing.T) {
	edges := append(bounds()[:3:3], -1, 0, 1, far-1, far, far+1, -far-1, most, least, 1<<32, 1<<53+1)
	seen := map[api.Errno]int{}
	for _, x := range all() {
		for _, p := range plane(edges) {
			for _, by := range plane(edges) {
				_, errno := x.mustBe(t, []plot.Point{p}, by)
				seen[errno]++
				_, errno = x.mustBe(t, points(1, 1, p.X, p.Y, 0, 0), by)
				seen[errno]++
			}
		}
	}
	for _, errno := range []api.Errno{api.OK, api.ErrArg, api.ErrOver} {
		if seen[errno] < 5000 {
			t.Fatalf("%v", seen)
		}
	}
}
