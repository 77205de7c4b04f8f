package consider_test

import (
	"slices"
	"testing"

	"quitrent/api"
	"quitrent/consider"
)

// amount tells an amount of any size, of either sign.
func amount(next func(int) int) int64 {
	n := int64(next(100))
	switch next(4) {
	case 0:
		n = int64(next(1<<53)) << next(11)
	case 1:
		n = []int64{most, most - 1, 1 << 62, 1<<62 - 1, most / 32, most/32 + 1, 0, 1}[next(8)]
	case 2:
		n = int64(next(1 << 40))
	}
	if next(2) == 0 {
		return -n - int64(next(2))
	}
	return n
}

// points tells basis points, often those at an end or in the middle.
func points(next func(int) int) int {
	if next(3) == 0 {
		return []int{0, 1, 4999, 5000, 5001, whole - 1, whole}[next(7)]
	}
	return next(whole + 1)
}

// mixed tells up to so many that may come.
func mixed(next func(int) int, many int) []consider.Maybe {
	var l []consider.Maybe
	for range next(many + 1) {
		l = append(l, consider.Maybe{Amount: amount(next), Chance: points(next)})
	}
	return l
}

// fixed tells what is fixed, 0 or more.
func fixed(next func(int) int) int64 {
	return max(0, amount(next))
}

// P12.1, P12.2: lists of all sizes, amounts of all sizes, some that may not be; and turned about, and in another order, the same.
func TestMixed(t *testing.T) {
	next := random()
	seen := map[api.Errno]int{}
	for range 30000 {
		l, base, bound := mixed(next, 33), fixed(next), points(next)
		if next(2) == 0 {
			l = mixed(next, 4)
		}
		switch next(30) {
		case 0:
			base = -1 - int64(next(5))
		case 1:
			bound = []int{-1, whole + 1}[next(2)]
		case 2:
			if len(l) > 0 {
				l[next(len(l))].Chance = []int{-1, whole + 1}[next(2)]
			}
		}
		price, errno := likely(t, base, l, bound)
		meant, meantErrno := mean(t, base, l)
		seen[errno]++
		seen[meantErrno]++
		for range 3 {
			slices.Reverse(l)
			mustLikely(t, price, errno, base, l, bound)
			mustMean(t, meant, meantErrno, base, l)
			for i := range l {
				j := next(len(l))
				l[i], l[j] = l[j], l[i]
			}
		}
	}
	for _, errno := range []api.Errno{api.OK, api.ErrArg, api.ErrFull, api.ErrOver} {
		if seen[errno] < 500 {
			t.Errorf("error %d came %d times", errno, seen[errno])
		}
	}
}

// orders tells all orders of what may come.
func orders(l []consider.Maybe) [][]consider.Maybe {
	if len(l) == 0 {
		return [][]consider.Maybe{nil}
	}
	var all [][]consider.Maybe
	for _, short := range orders(l[1:]) {
		for at := range l {
			all = append(all, slices.Insert(slices.Clone(short), at, l[0]))
		}
	}
	return all
}

// P12.1, P12.2: in each order the price is the same, also where sums leave 64 bits on the way.
func TestAllOrders(t *testing.T) {
	for _, c := range []struct {
		l           []consider.Maybe
		price, mean int64
	}{
		{row([2]int64{1, 5000}, [2]int64{-1, 5001}, [2]int64{3, 3333}, [2]int64{-3, 6667}, [2]int64{10, 4999}, [2]int64{-10, 5000}), 97, 98},
		{row([2]int64{most, whole}, [2]int64{most, whole}, [2]int64{least, whole}, [2]int64{least, whole}, [2]int64{1, 5000}, [2]int64{1, 5000}), 100, 99},
		{row([2]int64{most, whole - 1}, [2]int64{least, whole - 1}, [2]int64{7, whole}, [2]int64{-3, whole}, [2]int64{1, 1}, [2]int64{1, 2}), 103, 103},
	} {
		for _, l := range orders(c.l) {
			mustLikely(t, c.price, api.OK, 100, l, 5000)
			mustMean(t, c.mean, api.OK, 100, l)
		}
	}
}

// P12.1, R2: in each order an error is the same.
func TestErrorsInAllOrders(t *testing.T) {
	over := row([2]int64{most, whole}, [2]int64{most, whole}, [2]int64{least, whole}, [2]int64{2, whole}, [2]int64{-1, whole})
	deep := row([2]int64{least, whole}, [2]int64{least, whole}, [2]int64{most, whole}, [2]int64{-200, whole}, [2]int64{1, whole})
	for _, l := range orders(over) {
		mustBoth(t, api.ErrOver, 100, l, 5000)
	}
	for _, l := range orders(deep) {
		mustBoth(t, api.ErrOver, 100, l, 5000)
		l[slices.Index(l, deep[3])].Chance = -1
		mustBoth(t, api.ErrArg, 100, l, 5000)
	}
}

// place tells how far down an answer is: too great, a price, below 0, below -2^63.
func place(t *testing.T, errno api.Errno, last int) int {
	t.Helper()
	switch {
	case errno == api.OK:
		return 1
	case errno == api.ErrArg:
		return 2
	case errno == api.ErrOver && last > 0:
		return 3
	case errno == api.ErrOver:
		return 0
	}
	t.Fatalf("error %d", errno)
	return 0
}

// falls holds that the price is never greater by a greater bound, over all of them.
func falls(t *testing.T, base int64, l []consider.Maybe, bounds []int) {
	t.Helper()
	last, lastPlace := int64(most), 0
	for _, bound := range bounds {
		price, errno := consider.Likely(base, l, bound)
		now := place(t, errno, lastPlace)
		if now < lastPlace || errno == api.OK && price > last {
			t.Fatalf("Likely of %d, %v, by %d: %d, %d, behind %d, by less", base, l, bound, price, errno, last)
		}
		lastPlace = now
		if errno == api.OK {
			last = price
		}
	}
}

// P12.3: a bound that rises step by step.
func TestRisingBound(t *testing.T) {
	all := make([]int, whole+1)
	for bound := range all {
		all[bound] = bound
	}
	falls(t, 1000, nil, all)
	falls(t, 1000, row([2]int64{50, 6000}, [2]int64{-20, 3000}, [2]int64{70, 0}, [2]int64{-30, whole}, [2]int64{9, whole}, [2]int64{-8, 0}), all)
	falls(t, 1<<62, row([2]int64{most, 1000}, [2]int64{least, 1000}, [2]int64{least, 500}, [2]int64{most, 9900}), all)
	next := random()
	for range 40 {
		falls(t, fixed(next), mixed(next, 32), all)
	}
	for range 3000 {
		bounds := []int{0, 1, whole - 1, whole}
		for range 12 {
			bounds = append(bounds, points(next))
		}
		slices.Sort(bounds)
		falls(t, fixed(next), mixed(next, 32), bounds)
	}
}

// P12.3: each bound by which a step comes: the price falls by all that isn't sure enough any more, and by what is below 0 and is now.
func TestStepsOfTheBound(t *testing.T) {
	l := row([2]int64{1, 2000}, [2]int64{20, 5000}, [2]int64{400, 8000}, [2]int64{-8000, 2000}, [2]int64{-160000, 5000}, [2]int64{-3200000, 8000})
	want := map[int]int64{0: 421, 2001: 421 - 1 - 3200000, 5001: 400 - 3200000 - 160000, 8001: -3368000}
	price := int64(0)
	for bound := range whole + 1 {
		if more, ok := want[bound]; ok {
			price = 5000000 + more
		}
		mustLikely(t, price, api.OK, 5000000, l, bound)
	}
}

// P12.3: what has the chance Whole counts in full, what has none for nothing, by both; of Likely by each bound above 0.
func TestWholeAndNone(t *testing.T) {
	next := random()
	many := 0
	for range 5000 {
		l, base := mixed(next, 8), fixed(next)
		var full []consider.Maybe
		for i := range l {
			l[i].Chance = whole * next(2)
			if l[i].Chance == whole {
				full = append(full, l[i])
			}
		}
		price, errno := mean(t, base, l)
		mustMean(t, price, errno, base, full)
		for _, bound := range []int{1, 1 + next(whole), whole - 1, whole} {
			mustLikely(t, price, errno, base, l, bound)
			mustLikely(t, price, errno, base, full, bound)
		}
		if errno == api.OK && len(full) < len(l) {
			many++
		}
	}
	if many < 500 {
		t.Errorf("only %d had a price", many)
	}
	for _, chance := range []int{0, whole} {
		counts := int64(chance / whole)
		mustMean(t, 100+50*counts, api.OK, 100, again(1, 50, chance))
		mustMean(t, 100-50*counts, api.OK, 100, again(1, -50, chance))
		mustLikely(t, 100+50*counts, api.OK, 100, again(1, 50, chance), 1)
		mustLikely(t, 100-50*counts, api.OK, 100, again(1, -50, chance), whole)
	}
}

// P12.1, by a bound of 0: there the chapter's words on what is sure enough and P12.3 differ, and the words hold. A chance of 0 is no less than the bound, and one of Whole isn't more than Whole less it.
func TestWholeAndNoneByABoundOfNone(t *testing.T) {
	mustLikely(t, 150, api.OK, 100, again(1, 50, 0), 0)
	mustLikely(t, 150, api.OK, 100, again(1, 50, whole), 0)
	mustLikely(t, 100, api.OK, 100, again(1, -50, 0), 0)
	mustLikely(t, 100, api.OK, 100, again(1, -50, whole), 0)
	mustLikely(t, 0, api.ErrOver, most, again(1, 1, 0), 0)
	mustLikely(t, 0, api.OK, 0, again(1, least, whole), 0)
}
