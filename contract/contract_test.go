package contract_test

import (
	"math"
	"slices"
	"testing"

	"quitrent/api"
	"quitrent/book"
	"quitrent/consider"
	"quitrent/contract"
)

// mustRefuse holds an error of New.
func mustRefuse(t *testing.T, want api.Errno, b *book.Book, lines []api.Line, may []consider.Maybe, bound, day int) {
	t.Helper()
	if c, errno := contract.New(b, lines, may, bound, day); c != nil || errno != want {
		t.Fatalf("New of %v, %v, %d, %d: %v, %d, not %d", lines, may, bound, day, c, errno, want)
	}
}

// mustNew makes a contract of the test's book that may be.
func mustNew(t *testing.T, lines []api.Line, may []consider.Maybe, bound, day int) *pair {
	t.Helper()
	p, errno := sign(t, newBook(t), lines, may, bound, day)
	if errno != api.OK {
		t.Fatalf("New of %v, %v, %d, %d: %d", lines, may, bound, day, errno)
	}
	return p
}

// P16.1: ordinary: a contract of each method, its price, its day, its obligations, and what is earned of each.
func TestNew(t *testing.T) {
	p := mustNew(t, linesOf(401, ratable, point, milestone, usage), nil, 0, 7)
	p.mustStand(401, 7, 101, 100, 100, 100)
	p.mustEarn(9, 0, 0, 0, 0)
	p.mustEarn(10, 10, 100, 0, 0)
	p.mustEarn(14, 50, 100, 0, 0)
	p.must(api.OK, tell, 2, 12, 2500)
	p.must(api.OK, tell, 3, 13, 1)
	p.mustEarn(11, 20, 100, 0, 0)
	p.mustEarn(12, 30, 100, 25, 0)
	p.mustEarn(13, 40, 100, 25, 100)
	p.mustEarn(19, 101, 100, 25, 100)
	p.mustEarn(mostDay, 101, 100, 25, 100)
	p.mustStand(401, 7, 101, 100, 100, 100)
}

// P16.1: the chapter's and the document's first examples of what is allotted.
func TestNewExamples(t *testing.T) {
	mustSign(t, linesOf(100, ratable, ratable)).mustStand(100, 1, 50, 50)
	lines := linesOf(100, ratable)
	lines[0].First, lines[0].Last = 1, 56
	p := mustSign(t, lines)
	p.mustEarn(28, 50)
	p.mustEarn(56, 100)
	p = mustSign(t, linesOf(100, milestone, ratable))
	p.must(api.OK, tell, 0, 12, 4000)
	p.mustEarn(12, 20, 15)
	mustNew(t, linesOf(100, ratable), []consider.Maybe{{Amount: 50, Chance: 6000}, {Amount: -20, Chance: 3000}}, 5000, 1).mustStand(150, 1, 150)
}

// P16.1: days at the bounds of a contract, and beyond.
func TestNewDays(t *testing.T) {
	lines := linesOf(100, ratable, usage)
	for _, day := range []int{math.MinInt, math.MinInt32, -2, -1, 0, mostDay + 1, mostDay + 2, 1 << 32, 1<<32 + 7, math.MaxInt} {
		mustRefuse(t, api.ErrArg, newBook(t), lines, nil, 0, day)
	}
	for _, day := range []int{1, 2, 9, 10, 14, 19, 20, mostDay - 1, mostDay} {
		mustNew(t, lines, nil, 0, day).mustStand(100, day, 50, 50)
	}
}

// P16.1: what obligations are worth alone is by the prices of the contract's day.
func TestNewAtItsDay(t *testing.T) {
	b := newBook(t)
	for _, x := range []struct {
		day   int
		price int64
	}{{5, 180}, {9, 20}} {
		if errno := b.Set(ratable, x.day, x.price); errno != api.OK {
			t.Fatalf("Set: %d", errno)
		}
	}
	for day, want := range map[int][]int64{1: {60, 60}, 4: {60, 60}, 5: {90, 30}, 8: {90, 30}, 9: {30, 90}, 10: {30, 90}, mostDay: {30, 90}} {
		p, errno := sign(t, b, linesOf(120, ratable, point), nil, 0, day)
		if errno != api.OK {
			t.Fatalf("at %d: %d", day, errno)
		}
		p.mustStand(120, day, want...)
	}
}

// P16.1: duty.Find's errors: no book, none and too many lines, and lines that may not be, at each place.
func TestNewLines(t *testing.T) {
	b := newBook(t)
	mustRefuse(t, api.ErrArg, nil, linesOf(100, ratable), nil, 0, 1)
	mustRefuse(t, api.ErrArg, b, nil, nil, 0, 1)
	mustRefuse(t, api.ErrArg, b, []api.Line{}, nil, 0, 1)
	for _, many := range []int{1, 2, 11, 12} {
		p := mustSign(t, linesOf(1000, make([]int, many)...))
		if p.c.Many() != many {
			t.Fatalf("%d of %d lines", p.c.Many(), many)
		}
		p.same()
	}
	for _, many := range []int{13, 14, 100} {
		mustRefuse(t, api.ErrFull, b, linesOf(1000, make([]int, many)...), nil, 0, 1)
	}
	for _, place := range []int{0, 1, 2} {
		for _, bad := range []api.Line{
			{Item: -1, Units: 1, Charge: 1, First: 10, Last: 19},
			{Item: 11, Units: 1, Charge: 1, First: 10, Last: 19},
			{Item: 0, Units: 0, Charge: 1, First: 10, Last: 19},
			{Item: 0, Units: -1, Charge: 1, First: 10, Last: 19},
			{Item: 0, Units: 1, Charge: -1, First: 10, Last: 19},
			{Item: 0, Units: 1, Charge: 1, First: 0, Last: 19},
			{Item: 0, Units: 1, Charge: 1, First: 10, Last: mostDay + 1},
			{Item: 0, Units: 1, Charge: 1, First: 19, Last: 18},
			{},
		} {
			mustRefuse(t, api.ErrArg, b, slices.Insert(linesOf(100, ratable, usage), place, bad), nil, 0, 1)
		}
	}
	none, _ := book.New(nil)
	mustRefuse(t, api.ErrArg, none, linesOf(100, ratable), nil, 0, 1)
}

// P16.1: lines that belong together are one obligation, others are not.
func TestNewTogether(t *testing.T) {
	p := mustSign(t, linesOf(600, apart, along, series, bundled, bundled2, series, little))
	p.mustStand(600, 1, 283, 189, 94, 31, 3)
}

// P16.1: lines that belong together: what they are told, and earn, as one.
func TestNewOfBundle(t *testing.T) {
	lines := linesOf(600, series, along, series, bundled)
	lines[0].Units, lines[2].Units = 3, 1
	lines[2].First, lines[2].Last = 5, 30
	p := mustSign(t, lines)
	p.mustStand(600, 1, 300, 300)
	for i, want := range []api.Duty{
		{Lines: []int{0, 2}, Alone: 60, Units: 4, Method: usage, First: 5, Last: 30},
		{Lines: []int{1, 3}, Alone: 60, Units: 2, Method: usage, First: 10, Last: 19},
	} {
		if d, ok := p.c.Duty(i); !ok || !alike(d, want) {
			t.Fatalf("Duty of %d: %v, %t, not %v", i, d, ok, want)
		}
	}
	p.must(api.OK, tell, 0, 3, 1)
	p.must(api.OK, tell, 1, 4, 1)
	p.mustEarn(3, 75, 0)
	p.mustEarn(4, 75, 150)
	p.must(api.OK, tell, 1, 6, 5)
	p.mustEarn(6, 75, 300)
	p.same()
}

// P16.1: duty.Find's error of what is worth too much alone, and allot.All's of all obligations together.
func TestNewTooMuchAlone(t *testing.T) {
	b := newBook(t)
	two := linesOf(100, huge)
	two[0].Units = 2
	mustRefuse(t, api.ErrOver, b, two, nil, 0, 1)
	mustRefuse(t, api.ErrOver, b, linesOf(100, huge, huge), nil, 0, 1)
	mustRefuse(t, api.ErrOver, b, linesOf(0, huge, huge), nil, 0, 1)
	mustNew(t, linesOf(100, huge), nil, 0, 1).mustStand(100, 1, 100)
	rest := linesOf(100, huge, little)
	rest[1].Units = 1<<62 - 1
	mustNew(t, rest, nil, 0, 1).mustStand(100, 1, 50, 50)
	rest[1].Units++
	mustRefuse(t, api.ErrOver, b, rest, nil, 0, 1)
}

// P16.1: nothing is worth 0 alone, so none of allot's errors of that comes: 1 unit at a price of 1 is the least.
func TestNewLeastAlone(t *testing.T) {
	mustSign(t, linesOf(100, little)).mustStand(100, 1, 100)
	mustSign(t, linesOf(100, little, ratable)).mustStand(100, 1, 2, 98)
	mustSign(t, linesOf(1, little, ratable)).mustStand(1, 1, 0, 1)
	lines := linesOf(100, little, little)
	lines[1].Units = 0
	mustRefuse(t, api.ErrArg, newBook(t), lines, nil, 0, 1)
	if _, errno := book.New([]api.Item{{Method: ratable, Price: 0}}); errno != api.ErrArg {
		t.Fatalf("an item of price 0: %d", errno)
	}
}

// P16.1: duty.Charge's error and consider.Likely's: sums at the ends of what is an amount, and beyond.
func TestNewPrice(t *testing.T) {
	b := newBook(t)
	lines := linesOf(most, ratable, point)
	mustSign(t, lines).mustStand(most, 1, 1<<62, 1<<62-1)
	lines[1].Charge = 1
	mustRefuse(t, api.ErrOver, b, lines, nil, 0, 1)
	// What lines charge must be an amount, though what may come would lessen it.
	mustRefuse(t, api.ErrOver, b, lines, []consider.Maybe{{Amount: -10, Chance: whole}}, 0, 1)
	lines[0].Charge = most - 1
	mustSign(t, lines).mustStand(most, 1, 1<<62, 1<<62-1)
	mustRefuse(t, api.ErrOver, b, lines, []consider.Maybe{{Amount: 1, Chance: whole}}, 0, 1)
	mustNew(t, lines, []consider.Maybe{{Amount: 5, Chance: whole}, {Amount: -5, Chance: whole}}, whole, 1).mustStand(most, 1, 1<<62, 1<<62-1)
	for less, want := range map[int64]api.Errno{-99: api.OK, -100: api.OK, -101: api.ErrArg, -most: api.ErrArg, least: api.ErrArg} {
		may := []consider.Maybe{{Amount: less, Chance: whole}}
		p, errno := sign(t, b, linesOf(100, ratable, point), may, whole, 1)
		if errno != want {
			t.Fatalf("100 and %d: %d, not %d", less, errno, want)
		}
		if errno == api.OK {
			p.same()
		}
	}
	mustSign(t, linesOf(0, ratable, point)).mustStand(0, 1, 0, 0)
	mustSign(t, linesOf(1, ratable, point)).mustStand(1, 1, 1, 0)
	mustNew(t, linesOf(0, ratable), []consider.Maybe{{Amount: -1, Chance: 0}}, whole, 1).mustStand(0, 1, 0)
}

// P16.1: consider.Likely's errors and answers, of bounds and chances at their ends, and of how much may come.
func TestNewMay(t *testing.T) {
	b, lines := newBook(t), linesOf(100, ratable)
	for _, bad := range []int{math.MinInt, -2, -1, whole + 1, whole + 2, math.MaxInt} {
		mustRefuse(t, api.ErrArg, b, lines, nil, bad, 1)
		mustRefuse(t, api.ErrArg, b, lines, []consider.Maybe{{Amount: 1, Chance: bad}}, 0, 1)
	}
	may := []consider.Maybe{{Amount: 50, Chance: 6000}, {Amount: -20, Chance: 3000}}
	for bound, price := range map[int]int64{0: 150, 1: 150, 5000: 150, 6000: 150, 6001: 100, 7000: 100, 7001: 80, whole - 1: 80, whole: 80} {
		mustNew(t, lines, may, bound, 1).mustStand(price, 1, price)
	}
	for _, many := range []int{1, 31, 32} {
		mustNew(t, lines, slices.Repeat([]consider.Maybe{{Amount: 2, Chance: whole}}, many), 0, 1).mustStand(100+2*int64(many), 1, 100+2*int64(many))
	}
	mustRefuse(t, api.ErrFull, b, lines, make([]consider.Maybe, 33), 0, 1)
	mustNew(t, lines, []consider.Maybe{}, 0, 1).mustStand(100, 1, 100)
}

// P16.1: which error comes first, where more than one would fit.
func TestNewErrorsInOrder(t *testing.T) {
	b := newBook(t)
	many, over, bad := make([]consider.Maybe, 33), linesOf(most, ratable, point), linesOf(most, ratable, point)
	over[1].Charge = 1
	bad[1].Charge, bad[1].Units = 1, 0
	full := linesOf(1, make([]int, 13)...)
	mustRefuse(t, api.ErrArg, b, full, many, -1, 0)
	mustRefuse(t, api.ErrArg, b, over, many, -1, mostDay+1)
	mustRefuse(t, api.ErrArg, nil, full, many, -1, 1)
	mustRefuse(t, api.ErrFull, b, full, many, -1, 1)
	mustRefuse(t, api.ErrFull, b, full, nil, -1, 1)
	mustRefuse(t, api.ErrArg, b, bad, many, 0, 1)
	mustRefuse(t, api.ErrArg, b, bad, nil, 0, 1)
	mustRefuse(t, api.ErrOver, b, over, many, 0, 1)
	mustRefuse(t, api.ErrOver, b, over, nil, -1, 1)
	mustRefuse(t, api.ErrFull, b, linesOf(1, huge, huge), many, -1, 1)
	mustRefuse(t, api.ErrArg, b, linesOf(1, huge, huge), nil, -1, 1)
	mustRefuse(t, api.ErrArg, b, linesOf(1, huge, huge), []consider.Maybe{{Amount: -2, Chance: whole}}, 1, 1)
	mustRefuse(t, api.ErrOver, b, linesOf(1, huge, huge), nil, 0, 1)
	two := linesOf(1, huge)
	two[0].Units = 2
	mustRefuse(t, api.ErrOver, b, two, many, -1, 1)
}

// P16.1: numbers of obligations at both ends, and beyond; same asks beyond them.
func TestNumbers(t *testing.T) {
	for many := 1; many <= 12; many++ {
		p := mustSign(t, linesOf(1200, slices.Repeat([]int{usage}, many)...))
		share := int64(1200 / many)
		for _, number := range []int{0, many - 1} {
			if d, ok := p.c.Duty(number); !ok || !slices.Equal(d.Lines, []int{number}) {
				t.Fatalf("Duty of %d: %v, %t", number, d, ok)
			}
			p.do(tell, number, 12, 1)
			if n := p.c.Allotted(number) - share; n < 0 || n > 1 || p.c.Earned(number, 12) != p.c.Allotted(number) || p.c.Earned(number, 11) != 0 {
				t.Fatalf("%d of %d: %d, %d", number, many, p.c.Allotted(number), p.c.Earned(number, 12))
			}
		}
		for _, number := range []int{-1, many, many + 1, math.MinInt, math.MaxInt} {
			p.must(api.ErrName, tell, number, 12, 1)
			p.must(api.ErrName, tell, number, 0, 0)
			p.must(api.ErrName, tell, number, mostDay+1, math.MinInt64)
		}
		p.same()
	}
}

// P16.1: Tell answers what the track does.
func TestTell(t *testing.T) {
	p := mustSign(t, linesOf(400, ratable, point, milestone, usage))
	for _, number := range []int{0, 1} {
		p.must(api.ErrArg, tell, number, 12, 1)
	}
	for _, number := range []int{2, 3} {
		for _, day := range []int{math.MinInt, -1, 0, mostDay + 1, math.MaxInt} {
			p.must(api.ErrArg, tell, number, day, 1)
		}
		p.must(api.ErrArg, tell, number, 12, 0)
		p.must(api.ErrArg, tell, number, 12, -1)
	}
	p.must(api.ErrArg, tell, 2, 12, whole+1)
	p.must(api.OK, tell, 2, 12, 5000)
	p.must(api.ErrTwice, tell, 2, 12, 6000)
	p.must(api.ErrOrder, tell, 2, 11, 5001)
	p.must(api.ErrOrder, tell, 2, 13, 4999)
	p.must(api.OK, tell, 2, 1, 1)
	p.must(api.OK, tell, 2, mostDay, whole)
	p.must(api.OK, tell, 3, 12, 1)
	p.must(api.ErrOver, tell, 3, 12, most)
	p.must(api.OK, tell, 3, 12, most-1)
	p.must(api.ErrOver, tell, 3, 12, 1)
	p.mustEarn(12, 30, 100, 50, 100)
	p = mustSign(t, linesOf(400, milestone, usage))
	for i := range mostTold {
		p.must(api.OK, tell, 0, 1+i, 1)
		p.must(api.OK, tell, 1, 1, 1)
	}
	p.must(api.ErrFull, tell, 0, 900, 1)
	p.must(api.ErrFull, tell, 1, 900, 1)
	p.same()
}

// R3: an obligation that was told is the caller's own, and the contract keeps none of what it was made of.
func TestShared(t *testing.T) {
	b, lines, may := newBook(t), linesOf(400, series, ratable, series), []consider.Maybe{{Amount: 20, Chance: 5000}}
	wereLines, wereMay := slices.Clone(lines), slices.Clone(may)
	p, errno := sign(t, b, lines, may, 5000, 4)
	if errno != api.OK || !slices.Equal(lines, wereLines) || !slices.Equal(may, wereMay) {
		t.Fatalf("%d, %v, %v", errno, lines, may)
	}
	lines[0], lines[1], lines[2], may[0] = api.Line{}, api.Line{}, api.Line{}, consider.Maybe{}
	for item := range 8 {
		if errno := b.Set(item, 3, 1000); errno != api.OK {
			t.Fatalf("Set: %d", errno)
		}
	}
	p.mustStand(420, 4, 140, 280)
	d, _ := p.c.Duty(0)
	d.Lines[0], d.Lines[1], d.Alone, d.Units, d.Method, d.First, d.Last = 7, 7, 7, 7, ratable, 7, 7
	p.must(api.OK, tell, 0, 12, 1)
	p.mustEarn(12, 70, 84)
	p.must(api.OK, afresh, 0, 12, 30)
	p.mustStand(450, 12, 150, 300)
	p.mustEarn(12, 75, 90)
}

// R5: contracts beside each other have nothing of each other, also of one book.
func TestBeside(t *testing.T) {
	b := newBook(t)
	p, _ := sign(t, b, linesOf(100, usage, ratable), nil, 0, 2)
	q, _ := sign(t, b, linesOf(100, usage, ratable), nil, 0, 2)
	p.must(api.OK, tell, 0, 12, 1)
	p.must(api.OK, onward, 0, 13, 30)
	q.mustStand(100, 2, 50, 50)
	q.mustEarn(14, 0, 25)
	q.must(api.OK, afresh, 0, 5, -40)
	p.mustStand(130, 13, 50, 80)
	p.mustEarn(13, 50, 20)
	q.mustStand(60, 5, 30, 30)
	q.must(api.OK, tell, 0, 12, 1)
	q.must(api.ErrArg, onward, 0, 19, 10)
	p.must(api.OK, onward, 0, 15, 10)
	p.same()
	q.same()
}
