package contract_test

import (
	"slices"
	"testing"

	"quitrent/api"
	"quitrent/book"
	"quitrent/consider"
)

// earnedBy tells what is earned of each obligation through each day from 0 to last.
func earnedBy(p *pair, last int) []int64 {
	var l []int64
	for i := range p.c.Many() {
		for day := range last + 1 {
			l = append(l, p.c.Earned(i, day))
		}
	}
	return l
}

// doIt does a call, and holds that nothing changes of days ahead of it, nor, of Onward, of its own day, nor at all where it is refused.
func doIt(p *pair, x call, last, number, day int, n int64) api.Errno {
	p.t.Helper()
	was := earnedBy(p, last)
	errno := p.do(x, number, day, n)
	from := day
	if x.name == "Onward" {
		from++
	}
	for i, now := range earnedBy(p, last) {
		if now != was[i] && (errno != api.OK || i%(last+1) < from) {
			p.t.Fatalf("%s of %d, %d, %d, %s: of %d, through %d %d, and %d ahead of it", x.name, number, day, n, p.told(), i/(last+1), i%(last+1), now, was[i])
		}
	}
	return errno
}

// one is a call of a day.
type one struct {
	x      call
	number int
	day    int
	n      int64
}

// brief are lines of two obligations, or of three, of days 3 to 5.
func brief(charge int64, items ...int) []api.Line {
	l := linesOf(charge, items...)
	for i := range l {
		l[i].First, l[i].Last = 3, 5
		if l[i].Item == little {
			l[i].Units = 5
		}
	}
	return l
}

// P16.1 to P16.4: each row of five out of eight calls, to contracts of some obligations; behind the last one, whatever it answered, all is as the chapter says.
func TestRows(t *testing.T) {
	seen := map[api.Errno]int{}
	b := newBook(t)
	for _, items := range [][]int{{little, ratable}, {milestone, point}, {usage, little, bundled}} {
		unit := int64(2)
		if items[0] == milestone {
			unit = whole / 2
		}
		l := []one{
			{tell, 0, 2, unit}, {tell, 0, 4, 2 * unit},
			{onward, 0, 3, 9}, {onward, 0, 4, -5}, {onward, 0, 5, 0},
			{afresh, 0, 3, -7}, {afresh, 0, 4, 13}, {afresh, 0, 5, -2},
		}
		for row := range 1 << 15 {
			p, _ := sign(t, b, brief(7, items...), nil, 0, 2)
			for n := range 5 {
				x := l[row>>(3*n)&7]
				seen[doIt(p, x.x, 6, x.number, x.day, x.n)]++
			}
			if row%16 == 0 {
				p.same()
			}
			p.mustFollow([]int{0, 1, 2, 3, 4, 5, 6, mostDay})
		}
	}
	for _, errno := range []api.Errno{api.OK, api.ErrArg, api.ErrTwice, api.ErrOrder} {
		if seen[errno] < 1000 {
			t.Errorf("error %d came %d times", errno, seen[errno])
		}
	}
}

// size tells an amount of any size, from 0 on.
func size(next func(int) int) int64 {
	return []int64{0, 1, int64(next(10)), int64(next(300)), int64(next(1 << 40)), int64(next(1 << 53)), most - int64(next(3)), most}[next(8)]
}

// signed tells an amount of any size, below 0, too.
func signed(next func(int) int) int64 {
	if n := size(next); next(2) == 0 {
		return n
	} else {
		return -n
	}
}

// anyLines are lines of the test's book, mostly such that may be.
func anyLines(next func(int) int) []api.Line {
	var l []api.Line
	for range []int{1, 2, 3, 5, 8, 12, 13}[next(14)/2] {
		first := 1 + next(40)
		x := api.Line{Item: next(10), Units: int64(1 + next(9)), Charge: int64(next(500)), First: first, Last: first + next(30)}
		switch next(60) {
		case 0:
			x.Item = huge
		case 1:
			x.Charge = size(next)
		case 2:
			x.Units = size(next)
		case 3:
			x.Item = next(14) - 1
		}
		l = append(l, x)
	}
	return l
}

// anyMay is what may come, mostly such that may be.
func anyMay(next func(int) int) []consider.Maybe {
	var l []consider.Maybe
	for range next(4) {
		l = append(l, consider.Maybe{Amount: int64(next(200) - 60), Chance: next(whole + 20)})
	}
	if next(20) == 0 {
		l = append(l, consider.Maybe{Amount: signed(next), Chance: next(whole)})
	}
	return l
}

// anyContract makes contracts until one may be, and counts the errors of the others.
func anyContract(t *testing.T, b *book.Book, next func(int) int, seen map[api.Errno]int) *pair {
	t.Helper()
	for {
		p, errno := sign(t, b, anyLines(next), anyMay(next), next(whole+20), 1+next(20))
		seen[errno]++
		if errno == api.OK {
			p.same()
			return p
		}
	}
}

// P16.1, P16.4: contracts of all kinds of lines, and of what may come.
func TestAnyContracts(t *testing.T) {
	next := random()
	seen := map[api.Errno]int{}
	b := newBook(t)
	for item := range 10 {
		for range 5 {
			b.Set(item, 1+next(20), int64(1+next(300)))
		}
	}
	for range 3000 {
		anyContract(t, b, next, seen)
	}
	for _, errno := range []api.Errno{api.ErrArg, api.ErrFull, api.ErrOver} {
		if seen[errno] < 50 {
			t.Errorf("error %d came %d times", errno, seen[errno])
		}
	}
}

// mix does one call of any kind, mostly such that it isn't refused.
func mix(p *pair, next func(int) int, last int) api.Errno {
	p.t.Helper()
	number, day := next(len(p.m.owed)), 1+next(last)
	switch next(40) {
	case 0:
		return doIt(p, onward, last, 0, []int{-1, 0, mostDay + 1, 1}[next(4)], signed(next))
	case 1:
		return doIt(p, afresh, last, 0, day, signed(next))
	case 2, 3:
		day = p.c.Day() + next(2)
		return doIt(p, onward, last, 0, day, p.c.All(day)-p.c.Price()-1+int64(next(60)))
	case 4, 5:
		return doIt(p, onward, last, 0, p.c.Day()+next(2), int64(next(300))-100)
	case 6:
		return doIt(p, afresh, last, 0, p.c.Day()+next(2), signed(next))
	case 7:
		return doIt(p, afresh, last, 0, p.c.Day()+next(2), int64(next(300))-100)
	case 8:
		return doIt(p, tell, last, len(p.m.owed)-next(2), day, 1)
	}
	if p.m.owed[number].duty.Method == milestone { // mostly in order
		return doIt(p, tell, last, number, day, int64(day*whole/last+next(30)))
	}
	return doIt(p, tell, last, number, day, size(next)>>next(40))
}

// P16.1 to P16.4: long rows of mixed calls, to contracts beside each other and of one book, until they are full.
func TestMixed(t *testing.T) {
	next := random()
	seen := map[api.Errno]int{}
	b, full := newBook(t), 0
	for range 12 {
		var pairs []*pair
		for range 4 {
			pairs = append(pairs, anyContract(t, b, next, map[api.Errno]int{}))
		}
		for n := range 400 {
			for _, p := range pairs {
				seen[mix(p, next, 70)]++
				if n%50 == 0 {
					p.same()
				}
			}
		}
		for _, p := range pairs {
			p.same()
			if p.m.changes == mostChanges {
				full++
			}
		}
	}
	for _, errno := range []api.Errno{api.OK, api.ErrArg, api.ErrTwice, api.ErrOrder, api.ErrFull, api.ErrOver, api.ErrName} {
		if seen[errno] < 100 {
			t.Errorf("error %d came %d times", errno, seen[errno])
		}
	}
	if full < 10 {
		t.Errorf("%d were full", full)
	}
}

// P16.2 to P16.4: prices, Alones and days of all sizes, behind some changes.
func TestAllSizes(t *testing.T) {
	next := random()
	b := newBook(t)
	for range 1500 {
		var lines []api.Line
		left := int64(most)
		for range 1 + next(4) {
			first := 1 + next(mostDay)
			x := api.Line{Item: little, Units: max(1, size(next)/4), First: first, Last: first + next(mostDay-first+1)}
			x.Charge = min(size(next), left)
			left -= x.Charge
			lines = append(lines, x)
		}
		p, errno := sign(t, b, lines, nil, 0, 1+next(1000))
		if errno == api.ErrOver { // what all are worth alone
			continue
		}
		for range 3 {
			p.do(tell, next(len(lines)), 1+next(mostDay), max(1, size(next)>>next(40)))
			p.do(changes()[next(2)], 0, p.c.Day()+next(mostDay-p.c.Day()+1), signed(next))
		}
		p.same()
	}
}

// R4: the same calls, in the same order, answer the same.
func TestAgain(t *testing.T) {
	told := func() []string {
		next := random()
		var l []string
		p := anyContract(t, newBook(t), next, map[api.Errno]int{})
		for range 100 {
			errno := mix(p, next, 70)
			l = append(l, text(int64(errno))+" "+text(p.c.Price())+" "+text(p.c.All(20)))
		}
		return l
	}
	if !slices.Equal(told(), told()) {
		t.Fatal("not the same")
	}
}
