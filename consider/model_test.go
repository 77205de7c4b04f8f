package consider_test

import (
	"math"
	"math/big"
	"slices"
	"testing"

	"quitrent/api"
	"quitrent/consider"
)

const (
	most  = math.MaxInt64
	least = math.MinInt64
	whole = 10000
)

// row tells what may come, of pairs: an amount, and its chance.
func row(pairs ...[2]int64) []consider.Maybe {
	var l []consider.Maybe
	for _, p := range pairs {
		l = append(l, consider.Maybe{Amount: p[0], Chance: int(p[1])})
	}
	return l
}

// again tells so many times the same that may come.
func again(many int, amount int64, chance int) []consider.Maybe {
	return slices.Repeat([]consider.Maybe{{Amount: amount, Chance: chance}}, many)
}

// refused tells the error that is named ahead of any sum.
func refused(fixed int64, l []consider.Maybe, bound int) api.Errno {
	if len(l) > 32 {
		return api.ErrFull
	}
	none := slices.ContainsFunc(l, func(m consider.Maybe) bool { return m.Chance < 0 || m.Chance > whole })
	if fixed < 0 || bound < 0 || bound > whole || none {
		return api.ErrArg
	}
	return api.OK
}

// priced tells the price of an exact sum.
func priced(exact *big.Int) (int64, api.Errno) {
	if !exact.IsInt64() {
		return 0, api.ErrOver
	}
	if exact.Sign() < 0 {
		return 0, api.ErrArg
	}
	return exact.Int64(), api.OK
}

// wantLikely tells what Likely is to answer.
func wantLikely(fixed int64, l []consider.Maybe, bound int) (int64, api.Errno) {
	if errno := refused(fixed, l, bound); errno != api.OK {
		return 0, errno
	}
	exact := big.NewInt(fixed)
	for _, m := range l {
		switch {
		case m.Amount > 0 && m.Chance < bound:
		case m.Amount < 0 && m.Chance <= whole-bound:
		default:
			exact.Add(exact, big.NewInt(m.Amount))
		}
	}
	return priced(exact)
}

// wantMean tells what Mean is to answer.
func wantMean(fixed int64, l []consider.Maybe) (int64, api.Errno) {
	if errno := refused(fixed, l, 0); errno != api.OK {
		return 0, errno
	}
	times := new(big.Int)
	for _, m := range l {
		times.Add(times, new(big.Int).Mul(big.NewInt(m.Amount), big.NewInt(int64(m.Chance))))
	}
	// Div rounds downward where it divides by a number above 0, whatever the sign.
	exact := new(big.Int).Div(times, big.NewInt(whole))
	return priced(exact.Add(exact, big.NewInt(fixed)))
}

// likely holds Likely, and tells what it answered.
func likely(t *testing.T, fixed int64, l []consider.Maybe, bound int) (int64, api.Errno) {
	t.Helper()
	before := slices.Clone(l)
	want, wantErrno := wantLikely(fixed, before, bound)
	for range 2 {
		got, errno := consider.Likely(fixed, l, bound)
		if got != want || errno != wantErrno {
			t.Fatalf("Likely of %d, %v, by %d: %d, %d, not %d, %d", fixed, before, bound, got, errno, want, wantErrno)
		}
		if !slices.Equal(l, before) {
			t.Fatalf("Likely changed %v to %v", before, l)
		}
	}
	return want, wantErrno
}

// mean holds Mean, and tells what it answered.
func mean(t *testing.T, fixed int64, l []consider.Maybe) (int64, api.Errno) {
	t.Helper()
	before := slices.Clone(l)
	want, wantErrno := wantMean(fixed, before)
	for range 2 {
		got, errno := consider.Mean(fixed, l)
		if got != want || errno != wantErrno {
			t.Fatalf("Mean of %d, %v: %d, %d, not %d, %d", fixed, before, got, errno, want, wantErrno)
		}
		if !slices.Equal(l, before) {
			t.Fatalf("Mean changed %v to %v", before, l)
		}
	}
	return want, wantErrno
}

// mustLikely holds a price, or an error with nothing beside it.
func mustLikely(t *testing.T, want int64, wantErrno api.Errno, fixed int64, l []consider.Maybe, bound int) {
	t.Helper()
	if got, errno := likely(t, fixed, l, bound); got != want || errno != wantErrno {
		t.Fatalf("Likely of %d, %v, by %d: %d, %d, not %d, %d", fixed, l, bound, got, errno, want, wantErrno)
	}
}

// mustMean holds a price, or an error with nothing beside it.
func mustMean(t *testing.T, want int64, wantErrno api.Errno, fixed int64, l []consider.Maybe) {
	t.Helper()
	if got, errno := mean(t, fixed, l); got != want || errno != wantErrno {
		t.Fatalf("Mean of %d, %v: %d, %d, not %d, %d", fixed, l, got, errno, want, wantErrno)
	}
}

// mustBoth holds an error of both.
func mustBoth(t *testing.T, want api.Errno, fixed int64, l []consider.Maybe, bound int) {
	t.Helper()
	mustLikely(t, 0, want, fixed, l, bound)
	mustMean(t, 0, want, fixed, l)
}

// random tells numbers from 0 on, below one, the same ones each time.
func random() func(below int) int {
	state := uint64(88172645463325252)
	return func(below int) int {
		state ^= state << 13
		state ^= state >> 7
		state ^= state << 17
		return int((state >> 11) % uint64(below))
	}
}
