package duty_test

import (
	"math/big"
	"slices"
	"testing"

	"quitrent/api"
	"quitrent/duty"
)

// charge holds Charge of lines with these Charges against their exact sum; all else of the lines is as it may not be.
func charge(t *testing.T, charges ...int64) api.Errno {
	t.Helper()
	var lines []api.Line
	exact := new(big.Int)
	for i, n := range charges {
		lines = append(lines, api.Line{Item: -i, Units: int64(i) - 3, Charge: n, First: i - 2, Last: -7 * i})
		exact.Add(exact, big.NewInt(n))
	}
	before := slices.Clone(lines)
	want, wantErrno := int64(0), api.ErrOver
	if exact.IsInt64() {
		want, wantErrno = exact.Int64(), api.OK
	}
	got, errno := duty.Charge(lines)
	if got != want || errno != wantErrno {
		t.Fatalf("Charge of %v: %d, %d, not %d, %d", charges, got, errno, want, wantErrno)
	}
	if !slices.Equal(lines, before) {
		t.Fatalf("Charge of %v changed the lines", charges)
	}
	return errno
}

// P11.1: ordinary, of no line, of lines that may not be, and of more than MostLines.
func TestCharge(t *testing.T) {
	for _, none := range [][]api.Line{nil, {}} {
		if got, errno := duty.Charge(none); got != 0 || errno != api.OK {
			t.Errorf("Charge of no line: %d, %d", got, errno)
		}
	}
	charge(t, 0)
	charge(t, 7)
	charge(t, -7)
	charge(t, 60, 0, 40)
	charge(t, 60, -100, 4)
	charge(t, slices.Repeat([]int64{5}, 13)...)
	charge(t, slices.Repeat([]int64{-5}, 5000)...)
	lines := linesOf(0, 5, 2, 2)
	if got, errno := duty.Charge(lines); got != 18 || errno != api.OK {
		t.Errorf("Charge of plain lines: %d, %d", got, errno)
	}
}

// P11.1: at both ends of 64 bits, one unit further, and there and back.
func TestChargeOver(t *testing.T) {
	for _, c := range []struct {
		l    []int64
		want api.Errno
	}{
		{[]int64{most}, api.OK}, {[]int64{least}, api.OK}, {[]int64{most - 1, 1}, api.OK}, {[]int64{least + 1, -1}, api.OK},
		{[]int64{most, 1}, api.ErrOver}, {[]int64{1, most}, api.ErrOver}, {[]int64{least, -1}, api.ErrOver}, {[]int64{-1, least}, api.ErrOver},
		{[]int64{most, 1, -1}, api.OK}, {[]int64{most, 1, -2}, api.OK}, {[]int64{least, -1, 1}, api.OK}, {[]int64{least, -1, 2}, api.OK},
		{[]int64{most, most, least, least}, api.OK}, {[]int64{least, least, most, most, 2}, api.OK}, {[]int64{least, most}, api.OK},
		{[]int64{most, most, most, -most, -most}, api.OK}, {[]int64{most, most, most, -most, -most, 1}, api.ErrOver},
		{[]int64{least, least, most, most, 1}, api.OK}, {[]int64{least, least, most}, api.ErrOver}, {[]int64{least, least, most, 1}, api.OK}, {[]int64{least, least, most, 0}, api.ErrOver},
		{[]int64{most, most, 2}, api.ErrOver}, {[]int64{least, least}, api.ErrOver}, {[]int64{1 << 62, 1 << 62}, api.ErrOver}, {[]int64{-1 << 62, -1 << 62}, api.OK}, {[]int64{-1 << 62, -1<<62 - 1}, api.ErrOver},
	} {
		if errno := charge(t, c.l...); errno != c.want {
			t.Errorf("Charge of %v: %d, not %d", c.l, errno, c.want)
		}
	}
	charge(t, slices.Repeat([]int64{most}, 3000)...)
	charge(t, append(slices.Repeat([]int64{most}, 3000), slices.Repeat([]int64{-most}, 3000)...)...)
}

// P11.1: rows of Charges of all sizes, in any order.
func TestChargeMixed(t *testing.T) {
	next := random()
	seen := map[api.Errno]int{}
	sizes := []int64{most, least, most - 1, least + 1, 1 << 62, -1 << 62, 1, -1, 0, 2, -2, 1000}
	for range 20000 {
		var l []int64
		for range next(9) {
			l = append(l, sizes[next(len(sizes))])
		}
		errno := charge(t, l...)
		slices.Reverse(l)
		if charge(t, l...) != errno {
			t.Fatalf("Charge of %v, turned about, has another error", l)
		}
		seen[errno]++
	}
	if seen[api.OK] < 1000 || seen[api.ErrOver] < 1000 {
		t.Errorf("errors came so often: %v", seen)
	}
}
