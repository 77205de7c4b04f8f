package plot_test

import (
	"slices"
	"testing"

	"quitrent/api"
	"quitrent/cents"
	"quitrent/plot"
)

// places are the first, some in the middle, and the last of so many.
func places(many int) []int { return []int{0, 1, many / 2, many - 2, many - 1} }

// P21.1: the chapter's example.
func TestStairsExample(t *testing.T) {
	mustStairs(t, []int64{5, -2}, 0, 0, 0, 5, 1, 5, 1, 3, 2, 3)
}

// P21.1: no columns, of both kinds, have one point.
func TestStairsOfNone(t *testing.T) {
	mustStairs(t, nil, 0, 0)
	mustStairs(t, []int64{}, 0, 0)
}

// P21.1: one column has three points.
func TestStairsOfOne(t *testing.T) {
	for _, n := range bounds() {
		mustStairs(t, []int64{n}, 0, 0, 0, n, 1, n)
	}
	for _, n := range beyond() {
		refusesStairs(t, api.ErrOver, n)
	}
}

// P21.1: columns of 0 and below 0, of which each has its two points.
func TestStairsOfSome(t *testing.T) {
	mustStairs(t, []int64{0}, 0, 0, 0, 0, 1, 0)
	mustStairs(t, []int64{0, 0}, 0, 0, 0, 0, 1, 0, 1, 0, 2, 0)
	mustStairs(t, []int64{0, 7, 0}, 0, 0, 0, 0, 1, 0, 1, 7, 2, 7, 2, 7, 3, 7)
	mustStairs(t, []int64{-5, 2}, 0, 0, 0, -5, 1, -5, 1, -3, 2, -3)
	mustStairs(t, []int64{-1, -1, -1}, 0, 0, 0, -1, 1, -1, 1, -2, 2, -2, 2, -3, 3, -3)
	mustStairs(t, []int64{10, -20, 10}, 0, 0, 0, 10, 1, 10, 1, -10, 2, -10, 2, 0, 3, 0)
	mustStairs(t, []int64{far, -2 * far, 2 * far}, 0, 0, 0, far, 1, far, 1, -far, 2, -far, 2, far, 3, far)
}

// P21.1: as many columns as there may be, and each number of them below.
func TestStairsOfMany(t *testing.T) {
	for _, n := range []int64{0, 1, -1, 4369, -4369} {
		for many := range mostColumns + 1 {
			l, errno := stairs(t, slices.Repeat([]int64{n}, many))
			if errno != api.OK || len(l) != 2*many+1 || l[2*many] != at(int64(many), int64(many)*n) {
				t.Fatalf("%d columns of %d: %v, %d", many, n, l, errno)
			}
		}
	}
	for _, n := range []int64{4370, -4370} {
		if _, errno := stairs(t, slices.Repeat([]int64{n}, mostColumns)); errno != api.ErrOver {
			t.Fatalf("%d: %d", n, errno)
		}
		if _, errno := stairs(t, slices.Repeat([]int64{n}, mostColumns-1)); errno != api.OK {
			t.Fatalf("%d: %d", n, errno)
		}
	}
}

// P21.1, R2: more columns are ErrFull, also where a sum is too great, wherever it is.
func TestStairsOfMore(t *testing.T) {
	for _, many := range []int{mostColumns + 1, mostColumns + 2, 1000, 1 << 20} {
		refusesFull := func(columns []int64) {
			t.Helper()
			if l, errno := plot.Stairs(columns); l != nil || errno != api.ErrFull {
				t.Fatalf("%d columns: %v, %d", len(columns), l, errno)
			}
		}
		refusesFull(make([]int64, many))
		for _, n := range []int64{far + 1, -far - 1, most, least} {
			for _, place := range places(many) {
				columns := make([]int64, many)
				columns[place] = n
				refusesFull(columns)
			}
		}
		refusesFull(slices.Repeat([]int64{most}, many))
	}
}

// P21.1: sums that are just 2^20 and just -2^20, one more and one less, at the first column, in the middle and at the last one.
func TestStairsAtTheBounds(t *testing.T) {
	for _, many := range []int{3, 4, 5, 99, mostColumns} {
		for _, place := range places(many) {
			for _, sign := range []int64{1, -1} {
				for _, start := range []int64{0, 1, -1, 1000, -1000} {
					// The column ahead of it, if there is one, is a part of the sum.
					columns := make([]int64, many)
					if place > 0 {
						columns[place-1] = start
					} else {
						start = 0
					}
					columns[place] = sign*(far-1) - start
					if l, errno := stairs(t, columns); errno != api.OK || l[2*place+1] != at(int64(place), sign*(far-1)) {
						t.Fatalf("one less at %d of %d: %d", place, many, errno)
					}
					columns[place] += sign
					if l, errno := stairs(t, columns); errno != api.OK || l[2*place+2] != at(int64(place+1), sign*far) {
						t.Fatalf("just these at %d of %d: %d", place, many, errno)
					}
					columns[place] += sign
					refusesStairs(t, api.ErrOver, columns...)
				}
			}
		}
	}
}

// P21.1: a sum that is too great is ErrOver also where all later ones are not.
func TestStairsThatComeBack(t *testing.T) {
	for _, n := range beyond() {
		if n != least {
			refusesStairs(t, api.ErrOver, n, -n)
			refusesStairs(t, api.ErrOver, 0, n, -n)
			refusesStairs(t, api.ErrOver, n, 0, -n, 5)
		}
		refusesStairs(t, api.ErrOver, 0, n, 0)
		refusesStairs(t, api.ErrOver, n, 5)
	}
	refusesStairs(t, api.ErrOver, far, 1, -1)
	refusesStairs(t, api.ErrOver, -far, -1, 1)
	refusesStairs(t, api.ErrOver, 1, far, -1, -far)
	mustStairs(t, []int64{1, -1, far, -far}, 0, 0, 0, 1, 1, 1, 1, 0, 2, 0, 2, far, 3, far, 3, 0, 4, 0)
	for place := range mostColumns - 1 {
		columns := make([]int64, mostColumns)
		columns[place], columns[place+1] = far+1, -1
		refusesStairs(t, api.ErrOver, columns...)
		columns[place], columns[place+1] = -far-1, far
		refusesStairs(t, api.ErrOver, columns...)
		columns[place], columns[place+1] = far, -2*far
		if _, errno := stairs(t, columns); errno != api.OK {
			t.Fatalf("at %d: %d", place, errno)
		}
	}
}

// P21.1: sums that leave 64 bits, at the second column or at a later one, and such as would come back into bounds where they wrap.
func TestStairsThatLeaveAllBits(t *testing.T) {
	for _, columns := range [][]int64{
		{1, most}, {far, most}, {-1, least}, {-far, least}, {most, 1}, {least, -1}, {most, most}, {least, least},
		{most, most, 2}, {least, least, 0}, {least, least, 5}, {most, 1, least}, {most, 1, least, 7}, {1, most, least}, {-1, least, most, 2},
		{1, most, least, 0}, {1, most, most, 1}, {5, most, most, 2}, {-5, least, least, 5}, {0, 0, 1, most, most, 2}, {far, most, most, 2, -far},
		{1 << 62, 1 << 62, 1 << 62, 1 << 62}, {0, 1 << 62, 1 << 62, 1 << 62, 1 << 62, 3}, {least, most}, {least, most, 1}, {most, least}, {most, -most}, {least, 1 << 62, 1 << 62},
		{1 << 32, 1 << 32}, {1 << 31, 1 << 31}, {-1 << 31, -1 << 31, 3}, {1<<53 + 1, -1 << 53}, {far, 1 << 53, -1 << 53},
	} {
		refusesStairs(t, api.ErrOver, columns...)
	}
}

// P21.1: each row of four columns out of edges.
func TestStairsRows(t *testing.T) {
	edges := []int64{least, -2*far - 1, -2 * far, -far - 1, -far, -far + 1, -1, 0, 1, far - 1, far, far + 1, 2 * far, 2*far + 1, most}
	seen := map[api.Errno]int{}
	for _, a := range edges {
		for _, b := range edges {
			for _, c := range edges {
				for _, d := range edges {
					_, errno := stairs(t, []int64{a, b, c, d})
					seen[errno]++
				}
			}
		}
	}
	if seen[api.OK] < 1000 || seen[api.ErrOver] < 1000 {
		t.Fatalf("%v", seen)
	}
}

// P21.1: mixed columns; and P21.1's words on where the stairs begin and end.
func TestStairsMixed(t *testing.T) {
	c := newChance()
	seen := map[api.Errno]int{}
	for range 20000 {
		columns := make([]int64, c.below(12))
		bits := 14 + c.below(8)
		for i := range columns {
			columns[i] = c.number(bits)
		}
		seen[mustBeginAndEnd(t, columns)]++
	}
	for range 300 {
		columns := make([]int64, mostColumns-3+c.below(6))
		bits := 13 + c.below(5)
		for i := range columns {
			columns[i] = c.number(bits)
		}
		seen[mustBeginAndEnd(t, columns)]++
	}
	if seen[api.OK] < 5000 || seen[api.ErrOver] < 1000 || seen[api.ErrFull] < 50 {
		t.Fatalf("%v", seen)
	}
}

// mustBeginAndEnd holds whether the stairs' points begin at 0, 0 and end at the number of columns and their sum, and each goes up or onward alone.
func mustBeginAndEnd(t *testing.T, columns []int64) api.Errno {
	t.Helper()
	l, errno := stairs(t, columns)
	if errno != api.OK {
		return errno
	}
	sum, _ := cents.Sum(columns)
	if len(l) != 2*len(columns)+1 || l[0] != at(0, 0) || l[len(l)-1] != at(int64(len(columns)), sum) {
		t.Fatalf("Stairs of %v: %v", columns, l)
	}
	for n, column := range columns {
		foot, edge, end := l[2*n], l[2*n+1], l[2*n+2]
		if foot.X != edge.X || edge.Y-foot.Y != column || end.X-edge.X != 1 || end.Y != edge.Y {
			t.Fatalf("Stairs of %v: %v at %d", columns, l, n)
		}
	}
	return errno
}

// P21.1, R3, R5: what a caller does with its list or with an answer afterwards changes no other answer, nor does a call beside it.
func TestStairsAreNew(t *testing.T) {
	room := []int64{5, -2, 9, 9}
	columns := room[:2]
	first, _ := plot.Stairs(columns)
	longer := append(first, at(1, 1), at(2, 2))
	other, _ := plot.Stairs([]int64{1, 1, 1})
	clear(room)
	want := points(0, 0, 0, 5, 1, 5, 1, 3, 2, 3)
	if !slices.Equal(first, want) || len(longer) != 7 || !slices.Equal(other, points(0, 0, 0, 1, 1, 1, 1, 2, 2, 2, 2, 3, 3, 3)) {
		t.Fatalf("%v, %v", first, other)
	}
	clear(other)
	clear(longer)
	mustStairs(t, []int64{5, -2}, 0, 0, 0, 5, 1, 5, 1, 3, 2, 3)
	refusesStairs(t, api.ErrOver, far+1)
	mustStairs(t, nil, 0, 0)
	mustStairs(t, columns, 0, 0, 0, 0, 1, 0, 1, 0, 2, 0)
}
