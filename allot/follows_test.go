package allot_test

import (
	"math/big"
	"slices"
	"testing"

	"quitrent/allot"
	"quitrent/api"
)

// amountOf tells an amount of any size, 0 or more.
func amountOf(next func(int) int) int64 {
	switch next(5) {
	case 0:
		return int64(next(1<<53)) << next(11)
	case 1:
		return []int64{0, 1, most, most - 1, half, half - 1, most / 64, most/64 + 1}[next(8)]
	case 2:
		return int64(next(1 << 40))
	}
	return int64(next(100))
}

// alonesOf tells so many Alones; often such whose sum is an amount.
func alonesOf(next func(int) int, many int) []int64 {
	alone := make([]int64, many)
	small := next(3) > 0
	for i := range alone {
		alone[i] = amountOf(next)
		if small {
			alone[i] /= int64(many)
		}
	}
	return alone
}

// someOf tells some places of so many, rising.
func someOf(next func(int) int, many int) []int {
	var whose []int
	for place := range many {
		if next(3) == 0 {
			whose = append(whose, place)
		}
	}
	return whose
}

// howMany tells how many obligations there are: mostly few.
func howMany(next func(int) int) int {
	if next(3) == 0 {
		return next(70)
	}
	return next(6)
}

// together holds that what is allotted is the price.
func together(t *testing.T, name string, price int64, got []int64) {
	t.Helper()
	if sum := sumOf(got); sum.Cmp(big.NewInt(price)) != 0 {
		t.Fatalf("%s: %v is %v together, not %d", name, got, sum, price)
	}
}

// near holds that each share of a total is less than one unit from its exact one.
func near(t *testing.T, name string, total int64, shares, alone []int64) {
	t.Helper()
	sum := sumOf(alone)
	for i, share := range shares {
		off := new(big.Int).Mul(big.NewInt(share), sum)
		off.Sub(off, new(big.Int).Mul(big.NewInt(total), big.NewInt(alone[i])))
		if off.CmpAbs(sum) >= 0 {
			t.Fatalf("%s of %d by %v: place %d gets %d", name, total, alone, i, share)
		}
	}
}

// count holds that each error of a list came often enough.
func count(t *testing.T, seen map[api.Errno]int, times int, errnos ...api.Errno) {
	t.Helper()
	for _, errno := range errnos {
		if seen[errno] < times {
			t.Errorf("error %d came %d times", errno, seen[errno])
		}
	}
}

// P13.1, P13.4: prices and Alones of all sizes, some that may not be.
func TestAllMixed(t *testing.T) {
	next := random()
	seen := map[api.Errno]int{}
	for range 20000 {
		alone, price := alonesOf(next, howMany(next)), amountOf(next)
		switch next(20) {
		case 0:
			price = -price - 1
		case 1:
			if len(alone) > 0 {
				alone[next(len(alone))] = -1 - amountOf(next)
			}
		}
		discount(t, price, alone)
		got, errno := all(t, price, alone)
		seen[errno]++
		if errno == api.OK {
			together(t, "All", price, got)
			near(t, "All", price, got, alone)
		}
	}
	count(t, seen, 150, api.OK, api.ErrArg, api.ErrFull, api.ErrOver)
}

// P13.2, P13.4: prices, Alones and places of all sizes, some that may not be; and where there is an answer, it is the price together, and the others get their Alones.
func TestSomeMixed(t *testing.T) {
	next := random()
	seen := map[api.Errno]int{}
	for range 30000 {
		alone, price := alonesOf(next, howMany(next)), amountOf(next)
		whose := someOf(next, len(alone))
		if len(alone) > 64 && next(2) == 0 {
			whose = firstPlaces(len(alone))
		}
		switch next(20) {
		case 0:
			price = -price - 1
		case 1:
			if len(alone) > 0 {
				alone[next(len(alone))] = -1 - amountOf(next)
			}
		case 2:
			whose = append(whose, next(70)-1)
		}
		got, errno := some(t, price, alone, whose)
		seen[errno]++
		if errno != api.OK {
			continue
		}
		together(t, "Some", price, got)
		left, shares, weights := price, []int64(nil), []int64(nil)
		for place, n := range alone {
			if slices.Contains(whose, place) {
				shares, weights = append(shares, got[place]), append(weights, n)
				continue
			}
			if got[place] != n {
				t.Fatalf("Some of %d, %v, of %v: place %d gets %d", price, alone, whose, place, got[place])
			}
			left -= n
		}
		near(t, "Some", left, shares, weights)
	}
	count(t, seen, 150, api.OK, api.ErrArg, api.ErrFull, api.ErrOver)
}

// P13.3, P13.4: totals, what is done and Alones of all sizes, some that may not be; and where there is an answer, it is the total together.
func TestAgainMixed(t *testing.T) {
	next := random()
	seen := map[api.Errno]int{}
	for range 30000 {
		many := howMany(next)
		alone, done, total := alonesOf(next, many), alonesOf(next, many), amountOf(next)
		for i := range done {
			if next(3) == 0 {
				done[i] = -done[i]
			}
		}
		switch next(20) {
		case 0:
			total = -total - 1
		case 1:
			if many > 0 {
				alone[next(many)] = -1 - amountOf(next)
			}
		case 2:
			done = append(done, 1)
		}
		got, errno := again(t, total, done, alone)
		seen[errno]++
		if errno != api.OK {
			continue
		}
		together(t, "Again", total, got)
		left, shares := total, make([]int64, many)
		for i, n := range done {
			left -= n
			shares[i] = got[i] - n
		}
		near(t, "Again", left, shares, alone)
	}
	count(t, seen, 150, api.OK, api.ErrArg, api.ErrFull, api.ErrOver)
}

// P13.4: without a discount each gets its Alone, by all, by whichever are some, and again, where nothing or all is done.
func TestNoDiscount(t *testing.T) {
	next := random()
	many := 0
	for range 5000 {
		alone := alonesOf(next, 1+next(64))
		sum := sumOf(alone)
		if !sum.IsInt64() || sum.Sign() == 0 {
			continue
		}
		many++
		price := sum.Int64()
		mustDiscount(t, 0, api.OK, price, alone)
		mustAll(t, alone, api.OK, price, alone)
		mustAgain(t, alone, api.OK, price, same(len(alone), 0), alone)
		mustAgain(t, alone, api.OK, price, alone, alone)
		whose := someOf(next, len(alone))
		if slices.ContainsFunc(whose, func(place int) bool { return alone[place] > 0 }) {
			mustSome(t, alone, api.OK, price, alone, whose)
		}
	}
	if many < 1000 {
		t.Errorf("only %d had a price", many)
	}
}

// P13.4: a discount of all alone is one of all, and what is given again, where nothing was done, is what all get; a discount of one alone is all taken from it.
func TestSomeAndAgainBesideAll(t *testing.T) {
	next := random()
	many := 0
	for range 5000 {
		alone, price := alonesOf(next, 1+next(64)), amountOf(next)
		got, errno := all(t, price, alone)
		mustSome(t, got, errno, price, alone, firstPlaces(len(alone)))
		mustAgain(t, got, errno, price, same(len(alone), 0), alone)
		off, offErrno := discount(t, price, alone)
		at := next(len(alone))
		if errno != api.OK || offErrno != api.OK || alone[at] == 0 || alone[at] < off {
			continue
		}
		many++
		mustSome(t, with(alone, at, alone[at]-off), api.OK, price, alone, places{at})
	}
	if many < 300 {
		t.Errorf("only %d had a discount of one alone", many)
	}
}

// P13.4, P13.3: given again below what was given, and back, all is as it was where the exact shares are whole.
func TestAgainAndBack(t *testing.T) {
	done, alone := amounts{30, 50, 20}, amounts{3, 5, 2}
	for more := int64(-1000); more <= 1000; more += 10 {
		want := amounts{30 + more*3/10, 50 + more*5/10, 20 + more*2/10}
		mustAgain(t, want, api.OK, 100+more, done, alone)
		mustAgain(t, done, api.OK, 100, want, alone)
	}
}

// R4, R5: what a call answered stays what it is behind others, and calls between change nothing.
func TestCallsKeepNothing(t *testing.T) {
	first, errno := allot.Some(100, amounts{60, 60}, places{0})
	if errno != api.OK {
		t.Fatalf("error %d", errno)
	}
	kept := slices.Clone(first)
	mustSome(t, amounts{9, 1, 90}, api.OK, 100, amounts{18, 2, 90}, places{0, 1})
	mustAll(t, amounts{5, 5}, api.OK, 10, amounts{1, 1})
	mustAgain(t, amounts{6, 6}, api.OK, 12, amounts{5, 5}, amounts{1, 1})
	mustSome(t, nil, api.ErrArg, 100, amounts{60, 60}, places{1, 0})
	if !slices.Equal(first, kept) {
		t.Errorf("%v is %v now", kept, first)
	}
	mustSome(t, kept, api.OK, 100, amounts{60, 60}, places{0})
}
