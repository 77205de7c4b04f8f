package net_test

import (
	"math"
	"testing"

	"quitrent/api"
	"quitrent/net"
)

// P17.1, P17.2: what the package is asked.
var (
	_ func(billed, recognized int64) (int64, int64, api.Errno)                      = net.Sides
	_ func(contract int, billed, recognized, more int64) ([]api.Posting, api.Errno) = net.Bill
	_ func(contract int, billed, recognized, more int64) ([]api.Posting, api.Errno) = net.Earn
)

// The chapter's example, and the document's.
func TestExample(t *testing.T) {
	for contract := range mostContracts {
		mustPost(t, earn, contract, 100, 80, 50, [2]int64{liability, 20}, [2]int64{asset, 30}, [2]int64{revenue, -50})
	}
	mustSides(t, 60, 50, 10, 0)
	mustPost(t, bill, 0, 0, 0, 60, [2]int64{receivable, 60}, [2]int64{liability, -60})
	mustPost(t, earn, 0, 60, 0, 50, [2]int64{liability, 50}, [2]int64{revenue, -50})
	mustPost(t, earn, 0, 60, 50, 100, [2]int64{liability, 10}, [2]int64{asset, 90}, [2]int64{revenue, -100})
	mustSides(t, 60, 150, 0, 90)
}

// edges are amounts of each kind, at the bounds and beyond.
func edges() []int64 {
	return []int64{least, least + 1, -1 << 32, -100, -2, -1, 0, 1, 2, 99, 100, 101, 1 << 31, 1 << 32, 1 << 62, most - 1, most}
}

// P17.1: ordinary, and the edges: what was billed and recognized is the same, or one more or less, at either end.
func TestSides(t *testing.T) {
	for _, x := range [][4]int64{
		{100, 80, 20, 0}, {80, 100, 0, 20}, {100, 0, 100, 0}, {0, 100, 0, 100},
		{0, 0, 0, 0}, {1, 0, 1, 0}, {0, 1, 0, 1}, {1, 1, 0, 0}, {2, 1, 1, 0}, {1, 2, 0, 1},
		{100, 100, 0, 0}, {101, 100, 1, 0}, {100, 101, 0, 1}, {99, 100, 0, 1}, {100, 99, 1, 0},
		{most, most, 0, 0}, {most, most - 1, 1, 0}, {most - 1, most, 0, 1}, {most - 1, most - 1, 0, 0},
		{most, 0, most, 0}, {0, most, 0, most}, {most, 1, most - 1, 0}, {1, most, 0, most - 1},
		{1 << 62, 1, 1<<62 - 1, 0}, {1 << 32, 1<<32 + 7, 0, 7}, {1<<53 + 1, 1 << 53, 1, 0}, {1<<60 + 1, 1 << 60, 1, 0},
	} {
		mustSides(t, x[0], x[1], x[2], x[3])
	}
}

// P17.1: each amount beside each; one below 0 is refused, with nothing beside the error.
func TestSidesOfAllEdges(t *testing.T) {
	for _, billed := range edges() {
		for _, recognized := range edges() {
			l, a, errno := sides(t, billed, recognized)
			if none := billed < 0 || recognized < 0; none != (errno == api.ErrArg) || none && (l != 0 || a != 0) {
				t.Errorf("Sides of %d, %d: %d, %d, %d", billed, recognized, l, a, errno)
			}
		}
	}
}

// P17.1: all that are few, and mixed ones of all sizes.
func TestSidesOfMany(t *testing.T) {
	for billed := int64(-3); billed <= 200; billed++ {
		for recognized := int64(-3); recognized <= 200; recognized++ {
			sides(t, billed, recognized)
		}
	}
	next := random()
	for range 100000 {
		billed := signed(next)
		sides(t, billed, signed(next))
		sides(t, max(billed, 0), size(next))
		if billed > 0 && billed < most {
			mustSides(t, billed, billed+1, 0, 1)
			mustSides(t, billed, billed-1, 1, 0)
		}
	}
}

// wrongContracts are numbers of no contract.
func wrongContracts() []int {
	return []int{-1, -2, -40, mostContracts, mostContracts + 1, 2 * mostContracts, math.MinInt32, math.MaxInt32, 1 << 32, 1<<32 + 5, -1<<32 + 5, math.MinInt, math.MinInt + 5, math.MaxInt}
}

// P17.2: a contract of -1, 0, the last one, one beyond, and further ones.
func TestContracts(t *testing.T) {
	for _, contract := range wrongContracts() {
		for _, x := range both() {
			mustRefuse(t, api.ErrArg, x, contract, 100, 80, 50)
			mustRefuse(t, api.ErrArg, x, contract, 100, 80, 0)
			mustRefuse(t, api.ErrArg, x, contract, 0, 0, 0)
			mustRefuse(t, api.ErrArg, x, contract, 100, 80, -50)
		}
	}
	for contract := range mostContracts {
		mustPost(t, bill, contract, 80, 100, 50, [2]int64{receivable, 50}, [2]int64{liability, -30}, [2]int64{asset, -20})
		mustPost(t, earn, contract, 100, 80, -50, [2]int64{liability, -50}, [2]int64{revenue, 50})
	}
}

// P17.2: what was billed and recognized of -1, 0, 1, the greatest amount and others, each beside each, with nothing more and a little.
func TestWhatWas(t *testing.T) {
	for _, x := range both() {
		for _, billed := range edges() {
			for _, recognized := range edges() {
				if billed < 0 || recognized < 0 {
					for _, more := range []int64{0, 1, -1, 200, -200, most, least} {
						mustRefuse(t, api.ErrArg, x, 7, billed, recognized, more)
					}
					continue
				}
				mustPost(t, x, 7, billed, recognized, 0)
				post(t, x, 7, billed, recognized, 1)
				post(t, x, 7, billed, recognized, -1)
			}
		}
	}
	// What isn't changed is asked, too.
	mustRefuse(t, api.ErrArg, bill, 7, 100, -1, 50)
	mustRefuse(t, api.ErrArg, earn, 7, -1, 100, 50)
	// One below 0 that wouldn't be with what is more.
	mustRefuse(t, api.ErrArg, bill, 7, -1, 100, 50)
	mustRefuse(t, api.ErrArg, earn, 7, 100, -1, 50)
}

// P17.2, R6: nothing more: no postings.
func TestNothingMore(t *testing.T) {
	for _, x := range both() {
		for _, billed := range []int64{0, 1, 80, 100, most - 1, most} {
			for _, recognized := range []int64{0, 1, 80, 100, most - 1, most} {
				mustPost(t, x, 3, billed, recognized, 0)
			}
		}
	}
}

// P17.2: 1 more and 1 less, beside sides of 1 and none.
func TestOneMore(t *testing.T) {
	for _, base := range []int64{1, 100, most - 1} {
		mustPost(t, bill, 3, base, base, 1, [2]int64{receivable, 1}, [2]int64{liability, -1})
		mustPost(t, bill, 3, base, base, -1, [2]int64{receivable, -1}, [2]int64{asset, 1})
		mustPost(t, bill, 3, base, base-1, 1, [2]int64{receivable, 1}, [2]int64{liability, -1})
		mustPost(t, bill, 3, base, base-1, -1, [2]int64{receivable, -1}, [2]int64{liability, 1})
		mustPost(t, bill, 3, base, base+1, 1, [2]int64{receivable, 1}, [2]int64{asset, -1})
		mustPost(t, bill, 3, base, base+1, -1, [2]int64{receivable, -1}, [2]int64{asset, 1})
		mustPost(t, earn, 3, base, base, 1, [2]int64{asset, 1}, [2]int64{revenue, -1})
		mustPost(t, earn, 3, base, base, -1, [2]int64{liability, -1}, [2]int64{revenue, 1})
		mustPost(t, earn, 3, base-1, base, 1, [2]int64{asset, 1}, [2]int64{revenue, -1})
		mustPost(t, earn, 3, base-1, base, -1, [2]int64{asset, -1}, [2]int64{revenue, 1})
		mustPost(t, earn, 3, base+1, base, 1, [2]int64{liability, 1}, [2]int64{revenue, -1})
		mustPost(t, earn, 3, base+1, base, -1, [2]int64{liability, -1}, [2]int64{revenue, 1})
	}
}

// P17.2: as much less as there was, one less than that, and much less.
func TestDownToNone(t *testing.T) {
	for _, was := range []int64{0, 1, 100, 1 << 32, most - 1, most} {
		for _, other := range []int64{0, 1, 100, most} {
			for _, more := range []int64{-was - 1, least, least + max(most-was-1, 0)} {
				mustRefuse(t, api.ErrArg, bill, 3, was, other, more)
				mustRefuse(t, api.ErrArg, earn, 3, other, was, more)
			}
			post(t, bill, 3, was, other, -was)
			post(t, earn, 3, other, was, -was)
		}
	}
	mustPost(t, bill, 3, 100, 0, -100, [2]int64{receivable, -100}, [2]int64{liability, 100})
	mustPost(t, bill, 3, 100, 30, -100, [2]int64{receivable, -100}, [2]int64{liability, 70}, [2]int64{asset, 30})
	mustPost(t, bill, 3, most, 0, -most, [2]int64{receivable, -most}, [2]int64{liability, most})
	mustPost(t, bill, 3, most, most, -most, [2]int64{receivable, -most}, [2]int64{asset, most})
	mustPost(t, earn, 3, 0, 100, -100, [2]int64{asset, -100}, [2]int64{revenue, 100})
	mustPost(t, earn, 3, 30, 100, -100, [2]int64{liability, -30}, [2]int64{asset, -70}, [2]int64{revenue, 100})
	mustPost(t, earn, 3, 0, most, -most, [2]int64{asset, -most}, [2]int64{revenue, most})
	mustPost(t, earn, 3, most, most, -most, [2]int64{liability, -most}, [2]int64{revenue, most})
}

// P17.2: to the greatest amount, and one beyond.
func TestUpToTheGreatest(t *testing.T) {
	for _, was := range []int64{0, 1, 100, 1 << 32, most - 1, most} {
		for _, other := range []int64{0, 1, 100, most} {
			post(t, bill, 3, was, other, most-was)
			post(t, earn, 3, other, was, most-was)
			if was == 0 {
				continue
			}
			for _, more := range []int64{most - was + 1, most} {
				mustRefuse(t, api.ErrOver, bill, 3, was, other, more)
				mustRefuse(t, api.ErrOver, earn, 3, other, was, more)
			}
		}
	}
	mustPost(t, bill, 3, 0, 0, most, [2]int64{receivable, most}, [2]int64{liability, -most})
	mustPost(t, bill, 3, 0, most, most, [2]int64{receivable, most}, [2]int64{asset, -most})
	mustPost(t, bill, 3, 1, 2, most-1, [2]int64{receivable, most - 1}, [2]int64{liability, 2 - most}, [2]int64{asset, -1})
	mustPost(t, earn, 3, 0, 0, most, [2]int64{asset, most}, [2]int64{revenue, -most})
	mustPost(t, earn, 3, most, 0, most, [2]int64{liability, most}, [2]int64{revenue, -most})
	mustPost(t, earn, 3, 2, 1, most-1, [2]int64{liability, 1}, [2]int64{asset, most - 2}, [2]int64{revenue, 1 - most})
}

// P17.2, R2: which error comes first, where more than one would fit.
func TestErrorsInOrder(t *testing.T) {
	for _, x := range both() {
		for _, contract := range wrongContracts() {
			for _, more := range []int64{0, 1, -101, least, most} { // less than 0, and no amount
				mustRefuse(t, api.ErrArg, x, contract, 100, 100, more)
				mustRefuse(t, api.ErrArg, x, contract, -1, 100, more)
				mustRefuse(t, api.ErrArg, x, contract, 100, -1, more)
				mustRefuse(t, api.ErrArg, x, contract, least, least, more)
			}
		}
		// One below 0 beside a sum that is no amount, by the other one or by itself.
		mustRefuse(t, api.ErrArg, x, 3, most, -1, most)
		mustRefuse(t, api.ErrArg, x, 3, -1, most, most)
		mustRefuse(t, api.ErrArg, x, 3, least, 5, -1)
		mustRefuse(t, api.ErrArg, x, 3, 5, least, -1)
		mustRefuse(t, api.ErrArg, x, 3, least, least, least)
		mustRefuse(t, api.ErrOver, x, 3, most, most, 1)
		mustRefuse(t, api.ErrOver, x, 3, most, most, most)
		mustRefuse(t, api.ErrArg, x, 3, most, most, least)
		mustRefuse(t, api.ErrArg, x, 3, 0, 0, least)
	}
	// Only of that which is more is it no amount, or below 0.
	mustRefuse(t, api.ErrOver, bill, 3, most, 0, 1)
	mustRefuse(t, api.ErrOver, earn, 3, 0, most, 1)
	mustRefuse(t, api.ErrArg, bill, 3, 0, most, -1)
	mustRefuse(t, api.ErrArg, earn, 3, most, 0, -1)
	mustPost(t, bill, 3, 0, most, 1, [2]int64{receivable, 1}, [2]int64{asset, -1})
	mustPost(t, earn, 3, most, 0, 1, [2]int64{liability, 1}, [2]int64{revenue, -1})
	mustPost(t, bill, 3, most, 0, -1, [2]int64{receivable, -1}, [2]int64{liability, 1})
	mustPost(t, earn, 3, 0, most, -1, [2]int64{asset, -1}, [2]int64{revenue, 1})
}
