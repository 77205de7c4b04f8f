package book_test

import (
	"math"
	"slices"
	"testing"

	"quitrent/api"
)

// P10.2: the chapter's example.
func TestExample(t *testing.T) {
	p := newPair(t, priced(100)...)
	p.must(api.OK, p.set(0, 10, 120))
	for day, want := range map[int]int64{0: 100, 9: 100, 10: 120, 11: 120, math.MaxInt: 120} {
		if price, errno := p.b.Price(0, day); price != want || errno != api.OK {
			t.Fatalf("Price at %d: %d, %d", day, price, errno)
		}
	}
}

// P10.2: Set of each item, day and price at their bounds, and beyond, alone: which error comes first, and what it leaves.
func TestWhichSet(t *testing.T) {
	for _, item := range []int{math.MinInt, -1, 0, 1, 2, 3, math.MaxInt} {
		for _, day := range []int{math.MinInt, -1, 0, 1, 2, 999999, 1000000, 1000001, math.MaxInt} {
			for _, price := range []int64{math.MinInt64, -1, 0, 1, 2, most - 1, most} {
				p := newPair(t, priced(100, most)...)
				want := api.OK
				switch {
				case item < 0 || item > 1:
					want = api.ErrName
				case day < 1 || day > 1000000 || price < 1:
					want = api.ErrArg
				}
				p.must(want, p.set(item, day, price))
				p.same()
			}
		}
	}
}

// P10.2: Price of each item and day, and of those that there are none of: ErrName comes first.
func TestWhichPrice(t *testing.T) {
	p := few(t)
	for _, item := range []int{math.MinInt, -1, 3, 4, math.MaxInt} {
		for _, day := range []int{math.MinInt, -1, 0, 10, math.MaxInt} {
			if price, errno := p.b.Price(item, day); price != 0 || errno != api.ErrName {
				t.Fatalf("Price of %d, %d: %d, %d", item, day, price, errno)
			}
		}
	}
	for item := range 3 {
		for _, day := range []int{math.MinInt, -2, -1} {
			if price, errno := p.b.Price(item, day); price != 0 || errno != api.ErrArg {
				t.Fatalf("Price of %d, %d: %d, %d", item, day, price, errno)
			}
		}
	}
	for day, want := range map[int]int64{0: 100, 1: 100, 9: 100, 10: 120, 11: 120, 19: 120, 20: 80, 21: 80, 1000000: 80, 1000001: 80, math.MaxInt: 80} {
		if price, errno := p.b.Price(0, day); price != want || errno != api.OK {
			t.Fatalf("Price at %d: %d, %d", day, price, errno)
		}
	}
	newPair(t).same()
}

// P10.2: the first and the last day that a price may be set of.
func TestEndsOfDays(t *testing.T) {
	p := newPair(t, priced(100)...)
	p.must(api.OK, p.set(0, 1000000, 3))
	p.must(api.OK, p.set(0, 1, 2))
	p.same()
	for day, want := range map[int]int64{0: 100, 1: 2, 999999: 2, 1000000: 3, 1000001: 3} {
		if price, errno := p.b.Price(0, day); price != want || errno != api.OK {
			t.Fatalf("Price at %d: %d, %d", day, price, errno)
		}
	}
}

// P10.2: one day is set once of an item, with the same price and with others; of other items it is still. ErrArg comes ahead.
func TestSameDay(t *testing.T) {
	p := few(t)
	for _, day := range []int{10, 20} {
		for _, price := range []int64{120, 80, 1, most} {
			p.must(api.ErrTwice, p.set(0, day, price))
			p.must(api.ErrName, p.set(3, day, price))
		}
		p.must(api.ErrArg, p.set(0, day, 0))
		p.must(api.ErrArg, p.set(0, day, -1))
		p.same()
		p.must(api.OK, p.set(1, day, 5))
		p.must(api.ErrTwice, p.set(1, day, 5))
		p.must(api.OK, p.set(0, day-1, 6))
		p.must(api.OK, p.set(0, day+1, 6)) // the same price as another day's
		p.same()
	}
}

// P10.2: the same prices in every order of six days.
func TestOrders(t *testing.T) {
	days := []int{1, 2, 5, 6, 9, 1000000}
	orders := 0
	var walk func(left []int, order []int)
	walk = func(left, order []int) {
		if len(left) > 0 {
			for i, day := range left {
				walk(slices.Delete(slices.Clone(left), i, i+1), append(slices.Clone(order), day))
			}
			return
		}
		p := newPair(t, priced(100, 50)...)
		for _, day := range order {
			p.must(api.OK, p.set(0, day, int64(1000+day)))
			p.same()
		}
		for _, day := range order {
			p.must(api.ErrTwice, p.set(0, day, 1))
		}
		p.same()
		orders++
	}
	walk(days, nil)
	if orders != 720 {
		t.Fatalf("%d orders", orders)
	}
}

// P10.2: 100 days of an item in rising, falling and mixed order, and no more; the same day once more is ErrTwice still, and another item has its own room.
func TestFull(t *testing.T) {
	orders := []func(i int) int{
		func(i int) int { return 10 * (i + 1) },
		func(i int) int { return 10 * (100 - i) },
		func(i int) int { return 10 * ((i + 1) * 37 % 101) },
	}
	for _, order := range orders {
		p := newPair(t, priced(100, 7, 9)...)
		for i := range 99 {
			p.must(api.OK, p.set(1, order(i), int64(i+1)))
		}
		p.same()
		p.must(api.OK, p.set(1, order(99), 5))
		p.same()
		for _, day := range []int{1, 5, 9, 11, 505, 999, 1001, 1000000} {
			p.must(api.ErrFull, p.set(1, day, 1))
			p.must(api.ErrArg, p.set(1, day, 0))
			p.must(api.ErrName, p.set(3, day, 1))
		}
		for i := range 100 {
			p.must(api.ErrTwice, p.set(1, order(i), 1))
		}
		p.must(api.ErrArg, p.set(1, 0, 1))
		p.must(api.ErrArg, p.set(1, 1000001, 1))
		p.same()
		for i := range 100 {
			p.must(api.OK, p.set(0, order(i), int64(i+1)))
		}
		p.must(api.ErrFull, p.set(0, 1, 1))
		p.must(api.OK, p.set(2, 1, 1))
		p.same()
	}
}

// P10.2: all items of the greatest book, full of prices.
func TestAllFull(t *testing.T) {
	p := newPair(t, plain(40)...)
	for i := range 101 {
		for item := range 40 {
			want := api.OK
			if i == 100 {
				want = api.ErrFull
			}
			p.must(want, p.set(item, 1+(i*41+item)%101, int64(1000*item+i+1)))
		}
	}
	p.same()
}

// prices tells an item's prices at days 0 to 29.
func prices(p *pair, item int) []int64 {
	var l []int64
	for day := range 30 {
		price, _ := p.b.Price(item, day)
		l = append(l, price)
	}
	return l
}

// P10.4: a price that is set changes none of a day ahead of it, nor of one from the next one set on, nor of other items; it is that of all days between.
func TestWhatFollows(t *testing.T) {
	for _, laid := range [][]int{nil, {1}, {10}, {29}, {5, 20}, {20, 5}, {12, 3, 25, 4}, {9, 11}} {
		for day := 1; day < 30; day++ {
			p := newPair(t, priced(100, 50, 70)...)
			next := 30
			for i, other := range laid {
				p.must(api.OK, p.set(1, other, int64(i+1)))
				if other > day {
					next = min(next, other)
				}
			}
			want, first, last := prices(p, 1), prices(p, 0), prices(p, 2)
			if errno := p.set(1, day, 1000); errno == api.OK {
				for at := day; at < next; at++ {
					want[at] = 1000
				}
			} else if !slices.Contains(laid, day) {
				t.Fatalf("Set at %d, of %v: %d", day, laid, errno)
			}
			if !slices.Equal(prices(p, 1), want) || !slices.Equal(prices(p, 0), first) || !slices.Equal(prices(p, 2), last) {
				t.Fatalf("set at %d, of %v: %v, %v, %v", day, laid, prices(p, 0), prices(p, 1), prices(p, 2))
			}
		}
	}
}
