package cents_test

import (
	"math"
	"math/big"
	"slices"
	"testing"

	"quitrent/api"
	"quitrent/cents"
)

const (
	most  = math.MaxInt64
	least = math.MinInt64
)

// edges are amounts at which sums and parts turn over.
func edges() []int64 {
	l := []int64{least, least + 1, most - 1, most, -10000, 9999, 10000, 1000000007, -3037000500, 3037000499}
	for n := int64(-4); n <= 4; n++ {
		l = append(l, n)
	}
	for _, bit := range []int{31, 32, 61, 62} {
		for n := int64(-1); n <= 1; n++ {
			l = append(l, 1<<bit+n, -1<<bit+n)
		}
	}
	return l
}

// mixed tells amounts of all sizes, the same ones each time.
func mixed(count int) []int64 {
	l := make([]int64, count)
	state := uint64(88172645463325252)
	for i := range l {
		state ^= state << 13
		state ^= state >> 7
		state ^= state << 17
		l[i] = int64(state) >> (i * 7 % 64)
	}
	return l
}

// checkExact holds an answer against an exact number: it, if it is an amount, else 0 and ErrOver.
func checkExact(t *testing.T, name string, args []int64, got int64, errno api.Errno, exact *big.Int) {
	t.Helper()
	want, wantErrno := int64(0), api.ErrOver
	if exact.IsInt64() {
		want, wantErrno = exact.Int64(), api.OK
	}
	if got != want || errno != wantErrno {
		t.Errorf("%s%v: %d, %d, not %d, %d", name, args, got, errno, want, wantErrno)
	}
}

func exactSum(l []int64) *big.Int {
	sum := new(big.Int)
	for _, n := range l {
		sum.Add(sum, big.NewInt(n))
	}
	return sum
}

// P1.1, ordinary and at the edges that are named.
func TestAddAndLess(t *testing.T) {
	for _, c := range []struct {
		a, b, sum, less     int64
		sumErrno, lessErrno api.Errno
	}{
		{2, 3, 5, -1, api.OK, api.OK},
		{-2, 3, 1, -5, api.OK, api.OK},
		{0, 0, 0, 0, api.OK, api.OK},
		{most, 0, most, most, api.OK, api.OK},
		{least, 0, least, least, api.OK, api.OK},
		{most, 1, 0, most - 1, api.ErrOver, api.OK},
		{most, -1, most - 1, 0, api.OK, api.ErrOver},
		{least, -1, 0, least + 1, api.ErrOver, api.OK},
		{least, 1, least + 1, 0, api.OK, api.ErrOver},
		{most, most, 0, 0, api.ErrOver, api.OK},
		{least, least, 0, 0, api.ErrOver, api.OK},
		{most, least, -1, 0, api.OK, api.ErrOver},
		{least, most, -1, 0, api.OK, api.ErrOver},
		{0, least, least, 0, api.OK, api.ErrOver},
		{-1, least, 0, most, api.ErrOver, api.OK},
	} {
		if sum, errno := cents.Add(c.a, c.b); sum != c.sum || errno != c.sumErrno {
			t.Errorf("Add(%d, %d): %d, %d", c.a, c.b, sum, errno)
		}
		if less, errno := cents.Less(c.a, c.b); less != c.less || errno != c.lessErrno {
			t.Errorf("Less(%d, %d): %d, %d", c.a, c.b, less, errno)
		}
	}
}

// P1.1, of all pairs.
func TestAddAndLessAreExact(t *testing.T) {
	l := append(edges(), mixed(150)...)
	for _, a := range l {
		for _, b := range l {
			args := []int64{a, b}
			sum, errno := cents.Add(a, b)
			checkExact(t, "Add", args, sum, errno, exactSum(args))
			less, errno := cents.Less(a, b)
			checkExact(t, "Less", args, less, errno, new(big.Int).Sub(big.NewInt(a), big.NewInt(b)))
		}
	}
}

// P1.1, with sums that leave 64 bits on the way.
func TestSum(t *testing.T) {
	for _, c := range []struct {
		l     []int64
		sum   int64
		errno api.Errno
	}{
		{nil, 0, api.OK},
		{[]int64{}, 0, api.OK},
		{[]int64{-9}, -9, api.OK},
		{[]int64{1, 2, 3}, 6, api.OK},
		{[]int64{most, 1, -1}, most, api.OK},
		{[]int64{least, -1, 1}, least, api.OK},
		{[]int64{most, most, most, least, least, least}, -3, api.OK},
		{[]int64{least, least, least, most, most, most, 3}, 0, api.OK},
		{[]int64{most, 1}, 0, api.ErrOver},
		{[]int64{least, -1}, 0, api.ErrOver},
		{[]int64{most, most, 2}, 0, api.ErrOver},
		{[]int64{least, least}, 0, api.ErrOver},
		{[]int64{most, -1, 2}, 0, api.ErrOver},
	} {
		if sum, errno := cents.Sum(c.l); sum != c.sum || errno != c.errno {
			t.Errorf("Sum(%v): %d, %d", c.l, sum, errno)
		}
	}
}

// P1.1, of long lists; they stay as they were.
func TestSumIsExact(t *testing.T) {
	l := append(edges(), mixed(300)...)
	for from := range l {
		for _, long := range []int{1, 2, 3, 7, 100, len(l)} {
			part := l[from:min(from+long, len(l))]
			kept := slices.Clone(part)
			sum, errno := cents.Sum(part)
			checkExact(t, "Sum", part, sum, errno, exactSum(part))
			if !slices.Equal(part, kept) {
				t.Fatalf("Sum changed its list")
			}
		}
	}
	same := slices.Repeat([]int64{most}, 100000)
	if sum, errno := cents.Sum(same); sum != 0 || errno != api.ErrOver {
		t.Errorf("Sum of many: %d, %d", sum, errno)
	}
	back := append(same, slices.Repeat([]int64{-most}, 100000)...)
	if sum, errno := cents.Sum(back); sum != 0 || errno != api.OK {
		t.Errorf("Sum of many, and back: %d, %d", sum, errno)
	}
}

// P1.2, ordinary, at the edges that are named, and wrong.
func TestPartAndRest(t *testing.T) {
	for _, c := range []struct {
		a, part, whole, want, rest int64
		errno, restErrno           api.Errno
	}{
		{7, 3, 2, 10, 1, api.OK, api.OK},
		{-7, 3, 2, -11, 1, api.OK, api.OK},
		{50, 4000, api.Whole, 20, 0, api.OK, api.OK},
		{100, 2, 3, 66, 2, api.OK, api.OK},
		{-100, 2, 3, -67, 1, api.OK, api.OK},
		{-6, 1, 3, -2, 0, api.OK, api.OK},
		{5, 0, 3, 0, 0, api.OK, api.OK},
		{-5, 0, 3, 0, 0, api.OK, api.OK},
		{0, most, 1, 0, 0, api.OK, api.OK},
		{most, most, most, most, 0, api.OK, api.OK},
		{least, most, most, least, 0, api.OK, api.OK},
		{most, 1, 1, most, 0, api.OK, api.OK},
		{least, 1, 1, least, 0, api.OK, api.OK},
		{-1, 1, most, -1, most - 1, api.OK, api.OK},
		{-1, most, most, -1, 0, api.OK, api.OK},
		{least, 1, most, -2, most - 1, api.OK, api.OK},
		{most, most, most - 1, 0, 1, api.ErrOver, api.OK},
		{least, most, most - 1, 0, most - 3, api.ErrOver, api.OK},
		{most, most, 1, 0, 0, api.ErrOver, api.OK},
		{least, most, 1, 0, 0, api.ErrOver, api.OK},
		{1 << 62, 2, 1, 0, 0, api.ErrOver, api.OK},
		{-1 << 62, 2, 1, least, 0, api.OK, api.OK},
		{-1<<62 - 1, 2, 1, 0, 0, api.ErrOver, api.OK},
		{5, 1, 0, 0, 0, api.ErrArg, api.ErrArg},
		{5, 1, -1, 0, 0, api.ErrArg, api.ErrArg},
		{5, 1, least, 0, 0, api.ErrArg, api.ErrArg},
		{5, -1, 1, 0, 0, api.ErrArg, api.ErrArg},
		{5, least, 1, 0, 0, api.ErrArg, api.ErrArg},
		{most, -2, 1, 0, 0, api.ErrArg, api.ErrArg},
		{0, -1, 0, 0, 0, api.ErrArg, api.ErrArg},
	} {
		if part, errno := cents.Part(c.a, c.part, c.whole); part != c.want || errno != c.errno {
			t.Errorf("Part(%d, %d, %d): %d, %d", c.a, c.part, c.whole, part, errno)
		}
		if rest, errno := cents.Rest(c.a, c.part, c.whole); rest != c.rest || errno != c.restErrno {
			t.Errorf("Rest(%d, %d, %d): %d, %d", c.a, c.part, c.whole, rest, errno)
		}
	}
}

// checkPart holds Part and Rest against exact numbers.
func checkPart(t *testing.T, a, part, whole int64) {
	t.Helper()
	args := []int64{a, part, whole}
	got, errno := cents.Part(a, part, whole)
	rest, restErrno := cents.Rest(a, part, whole)
	if whole < 1 || part < 0 {
		if got != 0 || rest != 0 || errno != api.ErrArg || restErrno != api.ErrArg {
			t.Errorf("Part, Rest%v: %d, %d, %d, %d", args, got, errno, rest, restErrno)
		}
		return
	}
	product := new(big.Int).Mul(big.NewInt(a), big.NewInt(part))
	// The whole is above 0: Euclid's division rounds downward there.
	wantUnits, wantRest := new(big.Int).DivMod(product, big.NewInt(whole), new(big.Int))
	checkExact(t, "Part", args, got, errno, wantUnits)
	checkExact(t, "Rest", args, rest, restErrno, wantRest)
}

// P1.2, of edges and of amounts of all sizes.
func TestPartAndRestAreExact(t *testing.T) {
	l := edges()
	for _, a := range l {
		for _, part := range l {
			for _, whole := range l {
				checkPart(t, a, part, whole)
			}
		}
	}
	m := mixed(30000)
	for i := 0; i+2 < len(m); i += 3 {
		checkPart(t, m[i], m[i+1], m[i+2])
		checkPart(t, m[i], m[i+1]&most, m[i+2]&most|1)
	}
	for a := int64(-12); a <= 12; a++ {
		for part := int64(-1); part <= 12; part++ {
			for whole := int64(-1); whole <= 12; whole++ {
				checkPart(t, a, part, whole)
			}
		}
	}
}

// P1.2, where low is above high, too.
func TestClamp(t *testing.T) {
	for _, c := range []struct{ n, low, high, want int64 }{
		{5, 1, 9, 5}, {1, 1, 9, 1}, {9, 1, 9, 9}, {0, 1, 9, 1}, {10, 1, 9, 9},
		{-5, -9, -1, -5}, {-10, -9, -1, -9}, {0, -9, -1, -1},
		{3, 3, 3, 3}, {2, 3, 3, 3}, {4, 3, 3, 3},
		{5, 9, 1, 9}, {9, 9, 1, 1}, {10, 9, 1, 1}, {0, 9, 1, 9}, {1, 9, 1, 9},
		{least, least, most, least}, {most, least, most, most},
		{least, most, least, most}, {most, most, least, least}, {least, 0, 0, 0}, {most, 0, 0, 0},
	} {
		if got := cents.Clamp(c.n, c.low, c.high); got != c.want {
			t.Errorf("Clamp(%d, %d, %d): %d, not %d", c.n, c.low, c.high, got, c.want)
		}
	}
}

// mustPart tells a part that is an amount.
func mustPart(t *testing.T, a, part, whole int64) int64 {
	t.Helper()
	n, errno := cents.Part(a, part, whole)
	if errno != api.OK {
		t.Fatalf("Part(%d, %d, %d): error %d", a, part, whole, errno)
	}
	return n
}

// wholes are those of edges that may be one.
func wholes() []int64 {
	return slices.DeleteFunc(edges(), func(n int64) bool { return n < 1 })
}

// P1.3, the first sentence.
func TestGreaterPartsAreNoLess(t *testing.T) {
	for _, whole := range wholes() {
		parts := []int64{0, whole}
		for _, n := range append(edges(), mixed(60)...) {
			parts = append(parts, (n&most)%whole)
		}
		slices.Sort(parts)
		for _, a := range edges() {
			if a < 0 {
				continue
			}
			before := int64(0)
			for _, part := range parts {
				n := mustPart(t, a, part, whole)
				if n < before {
					t.Errorf("Part(%d, %d, %d) is %d, a lesser part's is %d", a, part, whole, n, before)
				}
				before = n
			}
		}
	}
}

// P1.3, the other two.
func TestWholePartsAndPairs(t *testing.T) {
	for _, whole := range wholes() {
		for _, a := range append(edges(), mixed(40)...) {
			if n := mustPart(t, a, whole, whole); n != a {
				t.Errorf("Part(%d, %d, %d) is %d", a, whole, whole, n)
			}
			for _, n := range edges() {
				part := (n & most) % whole
				one, other := mustPart(t, a, part, whole), mustPart(t, a, whole-part, whole)
				// Exact, as at -2^63 what is 1 less is no amount.
				missing := new(big.Int).Sub(big.NewInt(a), exactSum([]int64{one, other}))
				if missing.Cmp(big.NewInt(0)) < 0 || missing.Cmp(big.NewInt(1)) > 0 {
					t.Errorf("of %d, %d of %d is %d, the others are %d", a, part, whole, one, other)
				}
			}
		}
	}
}
