package net_test

import (
	"slices"
	"testing"

	"quitrent/api"
)

// P17.2: a change that crosses from a side to the other.
func TestCrossing(t *testing.T) {
	mustPost(t, bill, 5, 80, 100, 50, [2]int64{receivable, 50}, [2]int64{liability, -30}, [2]int64{asset, -20})
	mustPost(t, bill, 5, 100, 80, -50, [2]int64{receivable, -50}, [2]int64{liability, 20}, [2]int64{asset, 30})
	mustPost(t, bill, 5, 0, 1, 2, [2]int64{receivable, 2}, [2]int64{liability, -1}, [2]int64{asset, -1})
	mustPost(t, bill, 5, 2, 1, -2, [2]int64{receivable, -2}, [2]int64{liability, 1}, [2]int64{asset, 1})
	mustPost(t, bill, 5, 0, 1<<62, most, [2]int64{receivable, most}, [2]int64{liability, 1<<62 - most}, [2]int64{asset, -1 << 62})
	mustPost(t, earn, 5, 100, 80, 50, [2]int64{liability, 20}, [2]int64{asset, 30}, [2]int64{revenue, -50})
	mustPost(t, earn, 5, 80, 100, -50, [2]int64{liability, -30}, [2]int64{asset, -20}, [2]int64{revenue, 50})
	mustPost(t, earn, 5, 1, 0, 2, [2]int64{liability, 1}, [2]int64{asset, 1}, [2]int64{revenue, -2})
	mustPost(t, earn, 5, 1, 2, -2, [2]int64{liability, -1}, [2]int64{asset, -1}, [2]int64{revenue, 2})
	mustPost(t, earn, 5, 1<<62, 0, most, [2]int64{liability, 1 << 62}, [2]int64{asset, most - 1<<62}, [2]int64{revenue, -most})
}

// P17.2: a change that stays on a side.
func TestOnOneSide(t *testing.T) {
	mustPost(t, bill, 5, 100, 80, 50, [2]int64{receivable, 50}, [2]int64{liability, -50})
	mustPost(t, bill, 5, 100, 80, -19, [2]int64{receivable, -19}, [2]int64{liability, 19})
	mustPost(t, bill, 5, 80, 100, 19, [2]int64{receivable, 19}, [2]int64{asset, -19})
	mustPost(t, bill, 5, 80, 100, -50, [2]int64{receivable, -50}, [2]int64{asset, 50})
	mustPost(t, earn, 5, 100, 80, 19, [2]int64{liability, 19}, [2]int64{revenue, -19})
	mustPost(t, earn, 5, 100, 80, -50, [2]int64{liability, -50}, [2]int64{revenue, 50})
	mustPost(t, earn, 5, 80, 100, 50, [2]int64{asset, 50}, [2]int64{revenue, -50})
	mustPost(t, earn, 5, 80, 100, -19, [2]int64{asset, -19}, [2]int64{revenue, 19})
}

// P17.2: a change that ends at just no side, and one that begins there.
func TestNoSide(t *testing.T) {
	mustPost(t, bill, 5, 100, 80, -20, [2]int64{receivable, -20}, [2]int64{liability, 20})
	mustPost(t, bill, 5, 80, 100, 20, [2]int64{receivable, 20}, [2]int64{asset, -20})
	mustPost(t, earn, 5, 100, 80, 20, [2]int64{liability, 20}, [2]int64{revenue, -20})
	mustPost(t, earn, 5, 80, 100, -20, [2]int64{asset, -20}, [2]int64{revenue, 20})
	for _, was := range []int64{20, 100, 1 << 62, most - 20} {
		mustPost(t, bill, 5, was, was, 20, [2]int64{receivable, 20}, [2]int64{liability, -20})
		mustPost(t, bill, 5, was, was, -20, [2]int64{receivable, -20}, [2]int64{asset, 20})
		mustPost(t, earn, 5, was, was, 20, [2]int64{asset, 20}, [2]int64{revenue, -20})
		mustPost(t, earn, 5, was, was, -20, [2]int64{liability, -20}, [2]int64{revenue, 20})
	}
}

// sign tells of which sign an amount is.
func sign(n int64) int {
	switch {
	case n > 0:
		return 1
	case n < 0:
		return -1
	}
	return 0
}

// signs tells of which sign the posting of each account is, if it may be posted at all by what is more.
func signs(x call, more int64) [4]int {
	if x.earns {
		return [4]int{receivable: 0, liability: sign(more), asset: sign(more), revenue: -sign(more)}
	}
	return [4]int{receivable: sign(more), liability: -sign(more), asset: -sign(more), revenue: 0}
}

// P17.2: the order of postings, their accounts, their signs and their contract; none is of 0, and what is more stands in just one of them.
func TestOrderAndSigns(t *testing.T) {
	for _, x := range both() {
		own := receivable
		if x.earns {
			own = revenue
		}
		for billed := int64(0); billed <= 12; billed++ {
			for recognized := int64(0); recognized <= 12; recognized++ {
				for more := int64(-12); more <= 12; more++ {
					l, errno := x.do(int(more+12), billed, recognized, more)
					last, owns := -1, 0
					for _, p := range l {
						if p.Account <= last || p.Account > revenue || p.Contract != int(more+12) || p.Amount == 0 || sign(p.Amount) != signs(x, more)[p.Account] {
							t.Fatalf("%s of %d, %d, %d: %v", x.name, billed, recognized, more, l)
						}
						last = p.Account
						if p.Account == own {
							owns++
						}
					}
					if done := errno == api.OK && more != 0; done != (owns == 1) || done != (len(l) >= 2) || len(l) > 3 {
						t.Fatalf("%s of %d, %d, %d: %v, %d", x.name, billed, recognized, more, l, errno)
					}
				}
			}
		}
	}
}

// P17.2: each row of edges, of some contracts.
func TestRows(t *testing.T) {
	seen := map[api.Errno]int{}
	for _, x := range both() {
		for _, contract := range []int{-1, 0, 1, 38, 39, 40} {
			for _, billed := range edges() {
				for _, recognized := range edges() {
					for _, more := range append(edges(), -99, -101, -1<<62, 1-most, 3, most/2) {
						_, errno := post(t, x, contract, billed, recognized, more)
						seen[errno]++
					}
				}
			}
		}
	}
	for _, errno := range []api.Errno{api.OK, api.ErrArg, api.ErrOver} {
		if seen[errno] < 1000 {
			t.Errorf("error %d came %d times", errno, seen[errno])
		}
	}
}

// near tells what is more: of any size, or about such that it ends at none, at the greatest amount, or at just no side.
func near(next func(int) int, changed, other int64) int64 {
	little := int64(next(5) - 2)
	switch next(4) {
	case 0:
		return little - changed
	case 1:
		return most - changed + min(little, changed)
	case 2:
		return other - changed + min(little, changed)
	}
	return signed(next)
}

// P17.2: amounts of all sizes, mostly such that aren't refused.
func TestMixed(t *testing.T) {
	next := random()
	seen := map[api.Errno]int{}
	for range 100000 {
		contract, billed, recognized := next(mostContracts), size(next), size(next)
		switch next(30) {
		case 0:
			contract = wrongContracts()[next(14)]
		case 1:
			billed = signed(next)
		case 2:
			recognized = signed(next)
		}
		_, errno := post(t, bill, contract, billed, recognized, near(next, billed, recognized))
		seen[errno]++
		_, errno = post(t, earn, contract, billed, recognized, near(next, recognized, billed))
		seen[errno]++
	}
	for _, errno := range []api.Errno{api.OK, api.ErrArg, api.ErrOver} {
		if seen[errno] < 5000 {
			t.Errorf("error %d came %d times", errno, seen[errno])
		}
	}
}

// P17.2, R3, R5: what a caller writes over postings, or behind them, changes no other answer, earlier or later.
func TestWrittenOver(t *testing.T) {
	for _, x := range both() {
		for _, a := range [][3]int64{{100, 80, 50}, {80, 100, 50}, {100, 80, -50}, {80, 100, -50}, {100, 100, 7}, {0, 0, most}} {
			held, errno := x.do(9, a[0], a[1], a[2])
			written, _ := x.do(9, a[0], a[1], a[2])
			was := slices.Clone(held)
			if errno != api.OK || len(was) < 2 {
				t.Fatalf("%s of %v: %v, %d", x.name, a, was, errno)
			}
			for i := range written {
				written[i] = api.Posting{Account: -7, Contract: -7, Amount: -7}
			}
			for _, l := range [][]api.Posting{written, held} {
				behind := append(l, api.Posting{Account: 77, Contract: 77, Amount: 77})
				_ = append(behind, behind...)
			}
			if !slices.Equal(held, was) {
				t.Fatalf("%s of %v: %v became %v", x.name, a, was, held)
			}
			later, _ := post(t, x, 9, a[0], a[1], a[2])
			if !slices.Equal(later, was) {
				t.Fatalf("%s of %v: %v, and later %v", x.name, a, was, later)
			}
		}
	}
}

// R4, R5: an answer doesn't hang on the calls ahead of it, also those that were refused.
func TestCallsBesideEachOther(t *testing.T) {
	next := random()
	for range 2000 {
		mustPost(t, earn, 8, 100, 80, 50, [2]int64{liability, 20}, [2]int64{asset, 30}, [2]int64{revenue, -50})
		post(t, both()[next(2)], next(42)-1, signed(next), size(next), signed(next))
		mustPost(t, bill, 9, 80, 100, 50, [2]int64{receivable, 50}, [2]int64{liability, -30}, [2]int64{asset, -20})
		sides(t, signed(next), signed(next))
		mustSides(t, 100, 80, 20, 0)
	}
}
