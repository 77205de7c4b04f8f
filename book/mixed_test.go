package book_test

import (
	"testing"

	"quitrent/api"
)

// do sets a price of one of eight kinds, to a book of two items.
func do(p *pair, kind int, price int64) {
	kinds := []told{{0, 5, 1}, {0, 6, 1}, {0, 4, 1}, {1, 5, 1}, {1, 1000000, 1}, {0, 0, 1}, {2, 5, 1}, {0, 5, -1}}
	of := kinds[kind]
	p.set(of.item, of.day, of.price*price)
}

// P10.2, P10.4: each row of five calls out of eight kinds; behind the last one, whatever it answered, all is told as the chapter says.
func TestRows(t *testing.T) {
	for row := range 1 << 15 {
		p := newPair(t, priced(100, 50)...)
		for n := range 5 {
			do(p, row>>(3*n)&7, int64(n+1))
		}
		p.same()
	}
}

// amount tells one of the sizes at which products turn over.
func amount(next func(int) int) int64 {
	switch next(3) {
	case 0:
		return []int64{1, 2, 3, most, most - 1, most / 2, 1 << 31, 1 << 32, 3037000499, 3037000500}[next(10)]
	case 1:
		return int64(next(1<<53)) << next(10)
	}
	return int64(next(30)) - 1
}

// line tells a line that may be most of the time.
func line(next func(int) int, items int) api.Line {
	first := 1 + next(1000)
	x := api.Line{Item: next(items), Units: amount(next), Charge: amount(next), First: first, Last: first + next(3)}
	switch next(12) {
	case 0:
		x.Item = next(items+2) - 1
	case 1:
		x.Last = first - next(2)
	case 2:
		x.First = next(3) - 1
	case 3:
		x.First, x.Last = 1000000-next(2), 1000002-next(4)
	}
	return x
}

// P10.1 to P10.4: long rows of mixed calls, with prices and units of all sizes, until items are full.
func TestMixed(t *testing.T) {
	next := random()
	seen := map[api.Errno]int{}
	for range 30 {
		items := 1 + next(4)
		list := plain(items)
		for i := range list {
			list[i].Price = max(1, amount(next))
		}
		p, span := newPair(t, list...), 50+next(400)
		for range 600 {
			seen[p.set(next(items+1)-next(2), next(span), amount(next))]++
			p.samePrice(next(items), next(span+9)-1)
			var lines []api.Line
			for range next(15) {
				lines = append(lines, line(next, items))
			}
			seen[p.check(lines...)]++
			seen[p.alone(line(next, items), next(span+9)-1)]++
		}
		p.same()
	}
	for _, errno := range []api.Errno{api.OK, api.ErrArg, api.ErrOver, api.ErrName, api.ErrTwice, api.ErrFull} {
		if seen[errno] < 50 {
			t.Errorf("error %d came %d times", errno, seen[errno])
		}
	}
}
