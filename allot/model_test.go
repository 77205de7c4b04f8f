package allot_test

import (
	"math"
	"math/big"
	"slices"
	"testing"

	"quitrent/allot"
	"quitrent/api"
)

const (
	most  = math.MaxInt64
	least = math.MinInt64
	half  = 1 << 62
)

// The lists of this package's tests, told short.
type (
	amounts = []int64
	places  = []int
)

// sumOf tells the exact sum of amounts.
func sumOf(l []int64) *big.Int {
	sum := new(big.Int)
	for _, n := range l {
		sum.Add(sum, big.NewInt(n))
	}
	return sum
}

// narrow tells the amount that an exact number is, or that it is none.
func narrow(exact *big.Int) (int64, api.Errno) {
	if !exact.IsInt64() {
		return 0, api.ErrOver
	}
	return exact.Int64(), api.OK
}

// wantOut tells portions by chapter 2's words, with numbers of any size.
func wantOut(total int64, weights []int64) ([]int64, api.Errno) {
	if len(weights) > 64 {
		return nil, api.ErrFull
	}
	if len(weights) == 0 || slices.Min(weights) < 0 || slices.Max(weights) == 0 {
		return nil, api.ErrArg
	}
	sum := sumOf(weights)
	if !sum.IsInt64() || total == least {
		return nil, api.ErrOver
	}
	size := new(big.Int).Abs(big.NewInt(total))
	missing := size.Int64()
	portions, rests := make([]int64, len(weights)), make([]*big.Int, len(weights))
	for i, weight := range weights {
		times := new(big.Int).Mul(size, big.NewInt(weight))
		part, rest := times.DivMod(times, sum, new(big.Int))
		portions[i], rests[i] = part.Int64(), rest
		missing -= portions[i]
	}
	for range missing {
		next := 0
		for i := range rests {
			if rests[i].Cmp(rests[next]) > 0 {
				next = i
			}
		}
		portions[next]++
		rests[next] = big.NewInt(-1)
	}
	for i := range portions {
		if total < 0 {
			portions[i] = -portions[i]
		}
	}
	return portions, api.OK
}

// wantAll tells what All is to answer.
func wantAll(price int64, alone []int64) ([]int64, api.Errno) {
	if price < 0 {
		return nil, api.ErrArg
	}
	return wantOut(price, alone)
}

// wantDiscount tells what Discount is to answer.
func wantDiscount(price int64, alone []int64) (int64, api.Errno) {
	exact := sumOf(alone)
	return narrow(exact.Sub(exact, big.NewInt(price)))
}

// mayBePlaces tells whether places are some of so many.
func mayBePlaces(whose []int, many int) bool {
	for i, place := range whose {
		if place < 0 || place >= many || i > 0 && place <= whose[i-1] {
			return false
		}
	}
	return len(whose) > 0
}

// wantSome tells what Some is to answer.
func wantSome(price int64, alone []int64, whose []int) ([]int64, api.Errno) {
	below := slices.ContainsFunc(alone, func(n int64) bool { return n < 0 })
	if price < 0 || below || !mayBePlaces(whose, len(alone)) {
		return nil, api.ErrArg
	}
	var weights, others []int64
	for place, n := range alone {
		if slices.Contains(whose, place) {
			weights = append(weights, n)
		} else {
			others = append(others, n)
		}
	}
	sum, errno := narrow(sumOf(others))
	if errno != api.OK {
		return nil, errno
	}
	left, errno := narrow(new(big.Int).Sub(big.NewInt(price), big.NewInt(sum)))
	if errno != api.OK {
		return nil, errno
	}
	if left < 0 {
		return nil, api.ErrArg
	}
	shares, errno := wantOut(left, weights)
	if errno != api.OK {
		return nil, errno
	}
	var got []int64
	for place, n := range alone {
		if i := slices.Index(whose, place); i >= 0 {
			n = shares[i]
		}
		got = append(got, n)
	}
	return got, api.OK
}

// wantAgain tells what Again is to answer.
func wantAgain(total int64, done, alone []int64) ([]int64, api.Errno) {
	if len(done) != len(alone) {
		return nil, api.ErrArg
	}
	sum, errno := narrow(sumOf(done))
	if errno != api.OK {
		return nil, errno
	}
	left, errno := narrow(new(big.Int).Sub(big.NewInt(total), big.NewInt(sum)))
	if errno != api.OK {
		return nil, errno
	}
	shares, errno := wantOut(left, alone)
	if errno != api.OK {
		return nil, errno
	}
	got := make([]int64, len(done))
	for i := range done {
		if got[i], errno = narrow(sumOf([]int64{done[i], shares[i]})); errno != api.OK {
			return nil, errno
		}
	}
	return got, api.OK
}

// roomy tells a copy of a list with room behind it, and that room, in which nothing is to be written.
func roomy[T any](l []T) ([]T, []T) {
	const room = 4
	all := make([]T, len(l)+room)
	copy(all, l)
	return all[:len(l)], all[len(l):]
}

// stays holds that a list is what it was, and the room behind it is, too.
func stays[T comparable](t *testing.T, name string, now, was, room []T) {
	t.Helper()
	if !slices.Equal(now, was) || !slices.Equal(room, make([]T, len(room))) {
		t.Fatalf("%s changed %v to %v, the room behind it to %v", name, was, now, room)
	}
}

// answers holds what a call answers, twice, and that it shares no memory with what it was given: spoil writes over the latter.
func answers(t *testing.T, name string, call func() ([]int64, api.Errno), spoil func(), want []int64, wantErrno api.Errno) {
	t.Helper()
	first, errno := call()
	if errno != wantErrno || !slices.Equal(first, want) || errno != api.OK && len(first) != 0 {
		t.Fatalf("%s: %v, %d, not %v, %d", name, first, errno, want, wantErrno)
	}
	for i := range first {
		first[i] = -77
	}
	second, errno := call()
	if errno != wantErrno || !slices.Equal(second, want) {
		t.Fatalf("%s again: %v, %d, not %v, %d", name, second, errno, want, wantErrno)
	}
	spoil()
	if !slices.Equal(second, want) {
		t.Fatalf("%s shares memory with what it was given", name)
	}
}

// all holds All against the model, and tells what it answered.
func all(t *testing.T, price int64, alone []int64) ([]int64, api.Errno) {
	t.Helper()
	want, wantErrno := wantAll(price, alone)
	given, room := roomy(alone)
	call := func() ([]int64, api.Errno) {
		got, errno := allot.All(price, given)
		stays(t, "All", given, alone, room)
		return got, errno
	}
	answers(t, "All", call, func() { clear(given) }, want, wantErrno)
	return want, wantErrno
}

// some holds Some against the model, and tells what it answered.
func some(t *testing.T, price int64, alone []int64, whose []int) ([]int64, api.Errno) {
	t.Helper()
	want, wantErrno := wantSome(price, alone, whose)
	given, room := roomy(alone)
	told, toldRoom := roomy(whose)
	call := func() ([]int64, api.Errno) {
		got, errno := allot.Some(price, given, told)
		stays(t, "Some", given, alone, room)
		stays(t, "Some", told, whose, toldRoom)
		return got, errno
	}
	answers(t, "Some", call, func() { clear(given); clear(told) }, want, wantErrno)
	return want, wantErrno
}

// discount holds Discount against the model, and tells what it answered.
func discount(t *testing.T, price int64, alone []int64) (int64, api.Errno) {
	t.Helper()
	want, wantErrno := wantDiscount(price, alone)
	given, room := roomy(alone)
	for range 2 {
		got, errno := allot.Discount(price, given)
		if got != want || errno != wantErrno {
			t.Fatalf("Discount of %d, %v: %d, %d, not %d, %d", price, alone, got, errno, want, wantErrno)
		}
		stays(t, "Discount", given, alone, room)
	}
	return want, wantErrno
}

// again holds Again against the model, and tells what it answered.
func again(t *testing.T, total int64, done, alone []int64) ([]int64, api.Errno) {
	t.Helper()
	want, wantErrno := wantAgain(total, done, alone)
	given, room := roomy(alone)
	had, hadRoom := roomy(done)
	call := func() ([]int64, api.Errno) {
		got, errno := allot.Again(total, had, given)
		stays(t, "Again", given, alone, room)
		stays(t, "Again", had, done, hadRoom)
		return got, errno
	}
	answers(t, "Again", call, func() { clear(given); clear(had) }, want, wantErrno)
	return want, wantErrno
}

// same tells so many times the same amount.
func same(many int, n int64) []int64 {
	return slices.Repeat([]int64{n}, many)
}

// with tells a list with another amount at a place.
func with(l []int64, place int, n int64) []int64 {
	l = slices.Clone(l)
	l[place] = n
	return l
}

// firstPlaces tells the places of the first so many.
func firstPlaces(many int) []int {
	l := make([]int, many)
	for i := range l {
		l[i] = i
	}
	return l
}

// random tells numbers from 0 on, below one, the same ones each time.
func random() func(below int) int {
	state := uint64(88172645463325252)
	return func(below int) int {
		state ^= state << 13
		state ^= state >> 7
		state ^= state << 17
		return int((state >> 11) % uint64(below))
	}
}
