package net_test

import (
	"math"
	"math/big"
	"slices"
	"testing"

	"quitrent/api"
	"quitrent/net"
)

// The chapters' numbers, by themselves.
const (
	most          = math.MaxInt64
	least         = math.MinInt64
	mostContracts = 40
)

// The chapters' accounts, by themselves.
const (
	receivable = 0
	liability  = 1
	asset      = 2
	revenue    = 3
)

// call is one of the two that tell postings.
type call struct {
	name  string
	do    func(contract int, billed, recognized, more int64) ([]api.Posting, api.Errno)
	earns bool
}

// both are the two.
func both() []call {
	return []call{bill, earn}
}

var (
	bill = call{name: "Bill", do: net.Bill}
	earn = call{name: "Earn", do: net.Earn, earns: true}
)

// exact tells an amount as a number of any size.
func exact(n int64) *big.Int { return big.NewInt(n) }

// less tells a difference.
func less(one, other *big.Int) *big.Int { return new(big.Int).Sub(one, other) }

// side tells how much more one is than the other, or 0, where that is below 0.
func side(one, other *big.Int) *big.Int {
	if one.Cmp(other) < 0 {
		return new(big.Int)
	}
	return less(one, other)
}

// wantSides tells what Sides is to answer.
func wantSides(billed, recognized int64) (int64, int64, api.Errno) {
	if billed < 0 || recognized < 0 {
		return 0, 0, api.ErrArg
	}
	b, r := exact(billed), exact(recognized)
	return side(b, r).Int64(), side(r, b).Int64(), api.OK
}

// want tells what Bill or Earn is to answer.
func want(x call, contract int, billed, recognized, more int64) ([]api.Posting, api.Errno) {
	if contract < 0 || contract >= mostContracts || billed < 0 || recognized < 0 {
		return nil, api.ErrArg
	}
	b, r := exact(billed), exact(recognized)
	b2, r2 := exact(billed), exact(recognized)
	changed := b2
	if x.earns {
		changed = r2
	}
	changed.Add(changed, exact(more))
	if !changed.IsInt64() {
		return nil, api.ErrOver
	}
	if changed.Sign() < 0 {
		return nil, api.ErrArg
	}
	var l []api.Posting
	for account, amount := range []*big.Int{
		receivable: less(b2, b),
		liability:  less(side(b, r), side(b2, r2)),
		asset:      less(side(r2, b2), side(r, b)),
		revenue:    less(r, r2),
	} {
		if amount.Sign() != 0 {
			l = append(l, api.Posting{Account: account, Contract: contract, Amount: amount.Int64()})
		}
	}
	return l, api.OK
}

// sides holds Sides, and tells what it answered.
func sides(t *testing.T, billed, recognized int64) (int64, int64, api.Errno) {
	t.Helper()
	owed, due, wantErrno := wantSides(billed, recognized)
	for range 2 {
		l, a, errno := net.Sides(billed, recognized)
		if l != owed || a != due || errno != wantErrno {
			t.Fatalf("Sides of %d, %d: %d, %d, %d, not %d, %d, %d", billed, recognized, l, a, errno, owed, due, wantErrno)
		}
	}
	return owed, due, wantErrno
}

// post holds Bill or Earn, and tells what it answered.
func post(t *testing.T, x call, contract int, billed, recognized, more int64) ([]api.Posting, api.Errno) {
	t.Helper()
	l, wantErrno := want(x, contract, billed, recognized, more)
	for range 2 {
		got, errno := x.do(contract, billed, recognized, more)
		if !slices.Equal(got, l) || errno != wantErrno {
			t.Fatalf("%s of %d, %d, %d, %d: %v, %d, not %v, %d", x.name, contract, billed, recognized, more, got, errno, l, wantErrno)
		}
	}
	return l, wantErrno
}

// mustSides holds liability and asset.
func mustSides(t *testing.T, billed, recognized, owed, due int64) {
	t.Helper()
	if l, a, errno := sides(t, billed, recognized); l != owed || a != due || errno != api.OK {
		t.Fatalf("Sides of %d, %d: %d, %d, %d, not %d, %d", billed, recognized, l, a, errno, owed, due)
	}
}

// mustPost holds postings, told by pairs: an account, and its amount.
func mustPost(t *testing.T, x call, contract int, billed, recognized, more int64, pairs ...[2]int64) {
	t.Helper()
	var l []api.Posting
	for _, p := range pairs {
		l = append(l, api.Posting{Account: int(p[0]), Contract: contract, Amount: p[1]})
	}
	got, errno := post(t, x, contract, billed, recognized, more)
	if !slices.Equal(got, l) || errno != api.OK {
		t.Fatalf("%s of %d, %d, %d, %d: %v, %d, not %v", x.name, contract, billed, recognized, more, got, errno, l)
	}
}

// mustRefuse holds an error of Bill or Earn, with nothing beside it.
func mustRefuse(t *testing.T, want api.Errno, x call, contract int, billed, recognized, more int64) {
	t.Helper()
	if got, errno := post(t, x, contract, billed, recognized, more); len(got) != 0 || errno != want {
		t.Fatalf("%s of %d, %d, %d, %d: %v, %d, not %d", x.name, contract, billed, recognized, more, got, errno, want)
	}
}

// random tells numbers from 0 on, below one, the same ones each time.
func random() func(below int) int {
	state := uint64(88172645463325252)
	return func(below int) int {
		state ^= state << 13
		state ^= state >> 7
		state ^= state << 17
		return int((state >> 11) % uint64(below))
	}
}

// size tells an amount of any size, from 0 on.
func size(next func(int) int) int64 {
	return []int64{0, 1, int64(next(10)), int64(next(300)), int64(next(1 << 40)), int64(next(1<<53)) << next(11), 1 << 62, most - int64(next(3)), most}[next(9)]
}

// signed tells an amount of any size, of either sign.
func signed(next func(int) int) int64 {
	if n := size(next); next(2) == 0 {
		return n
	} else {
		return -n - int64(next(2))
	}
}
