package net_test

import (
	"math/big"
	"testing"

	"quitrent/account"
	"quitrent/api"
	"quitrent/net"
)

// together tells what postings are of each account, together, and of all.
func together(l ...api.Posting) ([4]big.Int, *big.Int) {
	var each [4]big.Int
	all := new(big.Int)
	for _, p := range l {
		each[p.Account].Add(&each[p.Account], exact(p.Amount))
		all.Add(all, exact(p.Amount))
	}
	return each, all
}

// mustBeEven holds that postings are together 0.
func mustBeEven(t *testing.T, l []api.Posting) {
	t.Helper()
	if _, all := together(l...); all.Sign() != 0 {
		t.Fatalf("%v are together %s", l, all)
	}
}

// mustNet holds that at most one side isn't 0, none is below it, and that they are apart as the sums are.
func mustNet(t *testing.T, billed, recognized int64) {
	t.Helper()
	l, a, errno := net.Sides(billed, recognized)
	if errno != api.OK || l != 0 && a != 0 || l < 0 || a < 0 || less(exact(l), exact(a)).Cmp(less(exact(billed), exact(recognized))) != 0 {
		t.Fatalf("Sides of %d, %d: %d, %d, %d", billed, recognized, l, a, errno)
	}
}

// after tells the sums that are so much more.
func after(x call, billed, recognized, more int64) (int64, int64) {
	if x.earns {
		return billed, recognized + more
	}
	return billed + more, recognized
}

// holdAll holds what follows of a change, and tells whether there was one.
func holdAll(t *testing.T, x call, contract int, billed, recognized, more int64) bool {
	t.Helper()
	there, errno := x.do(contract, billed, recognized, more)
	if errno != api.OK {
		return false
	}
	mustBeEven(t, there)
	billed2, recognized2 := after(x, billed, recognized, more)
	mustNet(t, billed, recognized)
	mustNet(t, billed2, recognized2)
	mustMove(t, there, [4]int64{billed, recognized, billed2, recognized2})
	back, errno := x.do(contract, billed2, recognized2, -more)
	if errno != api.OK {
		t.Fatalf("%s of %d, %d, back by %d: %d", x.name, billed2, recognized2, more, errno)
	}
	mustBeEven(t, back)
	mustMove(t, back, [4]int64{billed2, recognized2, billed, recognized})
	each, _ := together(append(there, back...)...)
	for at := range each {
		if each[at].Sign() != 0 || len(there) != len(back) {
			t.Fatalf("%s of %d, %d, %d: %v, and back %v", x.name, billed, recognized, more, there, back)
		}
	}
	return true
}

// mustMove holds that postings move each account by what Sides tells of the sums ahead of them and behind.
func mustMove(t *testing.T, l []api.Posting, s [4]int64) {
	t.Helper()
	owed, due, _ := net.Sides(s[0], s[1])
	owed2, due2, _ := net.Sides(s[2], s[3])
	each, _ := together(l...)
	for at, want := range []*big.Int{
		receivable: less(exact(s[2]), exact(s[0])),
		liability:  less(exact(owed), exact(owed2)),
		asset:      less(exact(due2), exact(due)),
		revenue:    less(exact(s[1]), exact(s[3])),
	} {
		if each[at].Cmp(want) != 0 {
			t.Fatalf("from %d, %d to %d, %d: %v", s[0], s[1], s[2], s[3], l)
		}
	}
}

// P17.3: of few, and of all edges.
func TestFollows(t *testing.T) {
	many := 0
	for _, x := range both() {
		for billed := range int64(15) {
			for recognized := range int64(15) {
				for more := int64(-16); more <= 16; more++ {
					if holdAll(t, x, 4, billed, recognized, more) {
						many++
					}
				}
			}
		}
		for _, billed := range edges() {
			for _, recognized := range edges() {
				for _, more := range edges() {
					if holdAll(t, x, 39, billed, recognized, more) {
						many++
					}
				}
			}
		}
	}
	if many < 10000 {
		t.Errorf("%d changes", many)
	}
}

// P17.3: of all sizes.
func TestFollowsOfAllSizes(t *testing.T) {
	next := random()
	many := 0
	for range 60000 {
		billed, recognized := size(next), size(next)
		if holdAll(t, bill, next(mostContracts), billed, recognized, near(next, billed, recognized)) {
			many++
		}
		if holdAll(t, earn, next(mostContracts), billed, recognized, near(next, recognized, billed)) {
			many++
		}
	}
	if many < 40000 {
		t.Errorf("%d changes", many)
	}
}

// mustStand holds what a contract's balances on a ledger are, by what was billed and recognized of it.
func mustStand(t *testing.T, l *account.Ledger, contract int, billed, recognized int64) {
	t.Helper()
	owed, due, _ := net.Sides(billed, recognized)
	for at, want := range []int64{receivable: billed, liability: -owed, asset: due, revenue: -recognized} {
		if got := l.Balance(at, contract, 0); got != want {
			t.Fatalf("of %d, %d billed and %d recognized: account %d is %d, not %d", contract, billed, recognized, at, got, want)
		}
	}
}

// P17.2, P17.3: on a ledger, balances are always the two sides, what was billed and what was recognized, of contracts beside each other.
func TestOnALedger(t *testing.T) {
	next := random()
	ledger, errno := account.New(1)
	if errno != api.OK {
		t.Fatalf("a ledger: %d", errno)
	}
	var stands [mostContracts][2]int64
	for ledger.Many() < account.MostEntries {
		contract, x := next(mostContracts), both()[next(2)]
		s := &stands[contract]
		changed, other := s[0], s[1]
		if x.earns {
			changed, other = other, changed
		}
		more := near(next, changed, other)
		p, errno := post(t, x, contract, s[0], s[1], more)
		if errno != api.OK || len(p) == 0 {
			continue
		}
		if _, errno := ledger.Post(0, p); errno != api.OK {
			t.Fatalf("%v: %d", p, errno)
		}
		s[0], s[1] = after(x, s[0], s[1], more)
		mustStand(t, ledger, contract, s[0], s[1])
	}
	for contract, s := range stands {
		mustStand(t, ledger, contract, s[0], s[1])
	}
}
