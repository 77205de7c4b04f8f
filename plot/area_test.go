package plot_test

import (
	"slices"
	"testing"

	"quitrent/plot"
)

// reversed tells points in the other direction.
func reversed(l []plot.Point) []plot.Point {
	l = slices.Clone(l)
	slices.Reverse(l)
	return l
}

// corners are the four of the plane, in the direction in which twice the area is above 0.
func corners() []plot.Point { return points(far, far, -far, far, -far, -far, far, -far) }

// P21.2: no points, one and two have no area.
func TestAreaOfFew(t *testing.T) {
	mustArea(t, 0, nil)
	mustArea(t, 0, points())
	for _, p := range plane(bounds()) {
		mustArea(t, 0, []plot.Point{p})
		mustArea(t, 0, []plot.Point{p, p})
		mustArea(t, 0, []plot.Point{p, at(far, far)})
		mustArea(t, 0, []plot.Point{at(-1, 5), p})
	}
}

// P21.2: points in either direction, by hand.
func TestAreaByHand(t *testing.T) {
	for _, x := range []struct {
		want int64
		l    []plot.Point
	}{
		{1, points(0, 0, 1, 0, 0, 1)},
		{2, points(0, 0, 1, 0, 1, 1, 0, 1)},
		{2, points(5, 7, 6, 7, 6, 8, 5, 8)},
		{12, points(0, 0, 3, 0, 3, 4)},
		{20, points(1, 2, 4, 3, 2, 9)},
		{-8, points(0, 0, 0, 2, 2, 2, 2, 0)},
		{2, points(-1, 0, 0, -1, 0, 1)},
		{0, points(0, 0, 1, 1, 1, 0, 0, 1)},
		{4, points(0, 0, 1, 0, 1, 1, 0, 1, 0, 0, 1, 0, 1, 1, 0, 1)},
	} {
		mustArea(t, x.want, x.l)
		mustArea(t, -x.want, reversed(x.l))
	}
}

// P21.2: points in a row, there and back, and all points the same, have none.
func TestAreaOfARow(t *testing.T) {
	for _, step := range points(1, 0, 0, 1, 1, 1, 3, -2, -1000, 1048) {
		var l []plot.Point
		for n := int64(-500); n < 500; n++ {
			l = append(l, at(n*step.X, n*step.Y))
		}
		mustArea(t, 0, l)
		mustArea(t, 0, reversed(l))
		for i := range l {
			l[i] = at(l[i*611%len(l)].X, 7)
		}
		mustArea(t, 0, l)
	}
	for _, p := range plane(bounds()) {
		for _, many := range []int{3, 4, 100, mostPoints} {
			mustArea(t, 0, slices.Repeat([]plot.Point{p}, many))
		}
	}
}

// P21.2: points at the corners of the plane, also round about it as often as there may be points.
func TestAreaOfCorners(t *testing.T) {
	for many := 4; many <= mostPoints; many += 4 {
		l := slices.Repeat(corners(), many/4)
		mustArea(t, int64(many)*2*far*far, l)
		mustArea(t, int64(-many)*2*far*far, reversed(l))
	}
	mustArea(t, 4*far*far, corners()[:3])
	mustArea(t, -4*far*far, reversed(corners()[:3]))
}

// P21.2: twice the area is told to the last unit, where it is as great as may be.
func TestAreaToTheLastUnit(t *testing.T) {
	full := slices.Repeat(corners(), mostPoints/4)
	whole := int64(mostPoints) * 2 * far * far
	for _, place := range []int{0, 1, 2, 3, 4, 501, 502, 503, 996, 997, 998, 999} {
		l := slices.Clone(full)
		for _, by := range points(-1, 0, 0, -1, -2, 0, -1, -1, -3, -far, -far, 0) {
			p := full[place]
			if p.X < 0 {
				by.X = -by.X
			}
			if p.Y < 0 {
				by.Y = -by.Y
			}
			l[place] = at(p.X+by.X, p.Y+by.Y)
			got, _ := area(t, l)
			if got >= whole {
				t.Fatalf("%v at %d: %d", l[place], place, got)
			}
			area(t, reversed(l))
		}
	}
}

// P21.2: a triangle of twice the area 1, behind ways round the plane that are gone back again.
func TestAreaBehindGreatOnes(t *testing.T) {
	for _, times := range []int{1, 7, 124} {
		there := slices.Repeat(corners(), times)
		l := append(slices.Concat(there, reversed(there)), points(far-1, far, far-1, far-1)...)
		mustArea(t, 1, l)
		mustArea(t, -1, reversed(l))
		mustArea(t, 0, l[:len(l)-2])
		mustArea(t, 0, l[:len(l)-1])
	}
}

// P21.2: the last point's other one is the first: wherever a list begins, twice the area is the same.
func TestAreaBeginsAnywhere(t *testing.T) {
	c := newChance()
	for _, many := range []int{1, 2, 3, 4, 5, 17, mostPoints} {
		l := c.line(many, 20)
		want, _ := area(t, l)
		for from := range min(many, 50) {
			mustArea(t, want, slices.Concat(l[from:], l[:from]))
			mustArea(t, -want, reversed(slices.Concat(l[from:], l[:from])))
		}
	}
}

// P21.2: each triangle of few edges.
func TestAreaOfTriangles(t *testing.T) {
	few := plane([]int64{-far, -1, 0, 3, far - 1, far})
	for _, a := range few {
		for _, b := range few {
			for _, c := range few {
				// Half the parallelogram's sides, by another rule than the points' own.
				want := (b.X-a.X)*(c.Y-a.Y) - (b.Y-a.Y)*(c.X-a.X)
				mustArea(t, want, []plot.Point{a, b, c})
			}
		}
	}
}

// P21.2: mixed points of all sizes and numbers of them.
func TestAreaMixed(t *testing.T) {
	c := newChance()
	for range 20000 {
		area(t, c.line(c.below(15), 2+c.below(20)))
	}
	for range 300 {
		area(t, c.line(mostPoints-5+c.below(8), 2+c.below(19)))
	}
}
