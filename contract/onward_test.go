package contract_test

import (
	"testing"

	"quitrent/api"
)

// P16.2: ordinary: what was earned stays, and what is left is shared by the Alones, and by what is done behind the day.
func TestOnward(t *testing.T) {
	p := half(t, 300, ratable, usage, milestone)
	p.must(api.OK, onward, 0, 12, 90)
	p.mustStand(390, 12, 150, 120, 120)
	p.mustEarn(12, 30, 0, 0)
	p.mustEarn(13, 47, 0, 0)
	p.mustEarn(14, 64, 60, 60)
	p.mustEarn(19, 150, 120, 120)
	p.must(api.OK, onward, 0, 15, -90)
	p.mustStand(300, 15, 114, 93, 93)
	p.mustEarn(11, 20, 0, 0)
	p.mustEarn(14, 64, 60, 60)
	p.mustEarn(15, 81, 60, 60)
	p.mustEarn(17, 97, 60, 60)
	p.mustEarn(19, 114, 93, 93)
	lines := linesOf(90, ratable, series)
	lines[1].Units = 8
	q := mustSign(t, lines)
	q.mustStand(90, 1, 30, 60)
	q.must(api.OK, onward, 0, 1, 30)
	q.mustStand(120, 1, 40, 80)
	q.must(api.OK, onward, 0, 14, 40)
	q.mustStand(160, 14, 67, 93)
	q.mustEarn(14, 20, 0)
}

// P16.2: the chapter's example, and the document's.
func TestOnwardExamples(t *testing.T) {
	p := mustSign(t, linesOf(100, point, usage))
	p.mustStand(100, 1, 50, 50)
	p.must(api.OK, onward, 0, 12, 20)
	p.mustStand(120, 12, 50, 70)
	lines := linesOf(100, ratable)
	lines[0].First, lines[0].Last = 1, 10
	p = mustSign(t, lines)
	p.must(api.OK, onward, 0, 5, 50)
	p.mustStand(150, 5, 150)
	p.mustEarn(5, 50)
	p.mustEarn(8, 110)
	p.mustEarn(10, 150)
}

// P16.2: to one less than what all earned through the day, to just that, and to more.
func TestOnwardToHowMuch(t *testing.T) {
	for _, day := range []int{1, 9, 10, 12, 14, 15, 18} {
		for _, methods := range [][]int{{ratable}, {usage, ratable}, {point, milestone, ratable}} {
			earned := half(t, 299, methods...).c.All(day)
			for _, price := range []int64{earned - 1, earned - 2, -1, -1 << 62} {
				p := half(t, 299, methods...)
				p.must(api.ErrArg, onward, 0, day, price-299)
				p.must(api.OK, onward, 0, day, earned-299)
			}
			for _, price := range []int64{earned, earned + 1, 298, 299, 300, 1000, most} {
				p := half(t, 299, methods...)
				p.must(api.OK, onward, 0, day, price-299)
				if p.c.All(day) != earned {
					t.Fatalf("to %d at %d: %d, not %d", price, day, p.c.All(day), earned)
				}
				p.same()
			}
		}
	}
	p := half(t, 200, ratable, usage)
	p.must(api.ErrArg, onward, 0, 14, -101)
	p.mustStand(200, 1, 100, 100)
	p.must(api.OK, onward, 0, 14, -100)
	p.mustStand(100, 14, 50, 50)
	p.mustEarn(13, 40, 0)
	p.mustEarn(14, 50, 50)
	p.mustEarn(19, 50, 50)
	p.must(api.ErrArg, onward, 0, 15, -1)
	p.must(api.OK, onward, 0, 15, 3)
	p.mustStand(103, 15, 52, 51)
	p.mustEarn(18, 51, 50)
	p.mustEarn(19, 52, 51)
}

// P16.2: what is earned of one counts for all: what one earned too much another may lack.
func TestOnwardOfAllTogether(t *testing.T) {
	p := half(t, 200, point, usage)
	p.must(api.ErrArg, onward, 0, 12, -101)
	p.must(api.OK, onward, 0, 12, -100)
	p.mustStand(100, 12, 100, 0)
	p.mustEarn(19, 100, 0)
	p.must(api.OK, onward, 0, 13, 1)
	p.mustStand(101, 13, 100, 1)
	p.mustEarn(18, 100, 0)
	p.mustEarn(19, 100, 1)
}

// P16.2: where none, one, all but one and each obligation is whole through the day.
func TestOnwardWhereWhole(t *testing.T) {
	for many := 1; many <= 12; many++ {
		methods := make([]int, many)
		for i := range methods {
			methods[i] = milestone
		}
		for ready := range many + 1 {
			p := mustSign(t, linesOf(int64(60*many), methods...))
			want := make([]int64, many)
			for i := range many {
				if i%2 == 0 && i/2 < ready || i%2 == 1 && (many+1)/2+i/2 < ready {
					p.must(api.OK, tell, i, 12, whole)
					want[i] = 60
				} else {
					want[i] = int64(60 + 60/(many-ready))
				}
			}
			if ready == many {
				p.must(api.ErrArg, onward, 0, 12, 60)
				p.must(api.ErrArg, onward, 0, 13, 0)
				p.must(api.ErrArg, onward, 0, mostDay, -1)
				p.must(api.OK, onward, 0, 11, 0)
				continue
			}
			price := int64(0)
			for _, n := range want {
				price += n
			}
			p.must(api.OK, onward, 0, 12, price-int64(60*many))
			p.mustStand(price, 12, want...)
			p.same()
		}
	}
}

// P16.2: each of the methods, whole through a day and not through the one ahead.
func TestOnwardWhereWholeByMethods(t *testing.T) {
	for method, from := range map[int]int{ratable: 19, point: 10, milestone: 19, usage: 19} {
		for _, day := range []int{from, from + 1, mostDay} {
			p := half(t, 100, method)
			p.must(api.ErrArg, onward, 0, day, 10)
			p.must(api.ErrArg, onward, 0, day, 0)
			p.must(api.OK, onward, 0, from-1, 10)
			p.mustStand(110, from-1, 110)
			p.must(api.ErrArg, onward, 0, day, 10)
			p.mustStand(110, from-1, 110)
		}
	}
	lines := linesOf(200, ratable, ratable)
	lines[1].Last = 29
	p := mustSign(t, lines)
	p.must(api.OK, onward, 0, 19, 30)
	p.mustStand(230, 19, 100, 130)
	p.mustEarn(18, 90, 45)
	p.mustEarn(19, 100, 50)
	p.mustEarn(24, 100, 90)
	p.must(api.ErrArg, onward, 0, 29, 0)
	p.must(api.OK, onward, 0, 28, 0)
	p.mustStand(230, 28, 100, 130)
}

// P16.2: shares of what is left, to the last unit, by what each is worth alone, whole ones without any.
func TestOnwardShares(t *testing.T) {
	p := mustSign(t, linesOf(231, little, ratable, point, bundled, apart))
	p.mustStand(231, 1, 1, 60, 60, 20, 90)
	p.must(api.OK, onward, 0, 12, 100)
	// What is left is 331 - 18 - 60 - 6 - 27, by 1, 60, 20 and 90.
	p.mustStand(331, 12, 1, 95, 60, 32, 143)
	p.mustEarn(12, 0, 18, 60, 6, 27)
	p.must(api.OK, tell, 0, 13, 1)
	p.must(api.OK, onward, 0, 13, 2)
	// And now 333 - 1 - 29 - 60 - 9 - 43, by 60, 20 and 90.
	p.mustStand(333, 13, 1, 96, 60, 32, 144)
}

// P16.2: the greatest price, and what is worth nearly too much alone.
func TestOnwardOfTheGreatest(t *testing.T) {
	lines := linesOf(most, huge, little)
	lines[1].Units = 1<<62 - 1
	p := mustSign(t, lines)
	p.mustStand(most, 1, 1<<62, 1<<62-1)
	p.must(api.OK, tell, 1, 12, 1<<61)
	p.mustEarn(12, 0, 1<<61)
	p.must(api.OK, onward, 0, 12, -(1 << 62))
	p.mustStand(1<<62-1, 12, 1<<60, 3<<60-1)
	p.must(api.OK, onward, 0, 12, 1<<62)
	p.mustStand(most, 12, 3<<60, 5<<60-1)
	p.must(api.OK, tell, 0, 13, 1)
	p.mustEarn(13, 3<<60, 1<<61)
	p.must(api.OK, onward, 0, 13, 0)
	p.mustStand(most, 13, 3<<60, 5<<60-1)
}

// P16.2: what is told later doesn't let one that was whole get less, nor one that wasn't.
func TestOnwardToldLater(t *testing.T) {
	p := mustSign(t, linesOf(100, usage, milestone))
	p.must(api.OK, onward, 0, 12, 20)
	p.mustStand(120, 12, 60, 60)
	p.must(api.OK, tell, 0, 12, 1)
	p.mustStand(120, 12, 60, 60)
	p.mustEarn(11, 0, 0)
	p.mustEarn(12, 60, 0)
	p.must(api.OK, onward, 0, 12, 20)
	p.mustStand(140, 12, 60, 80)
	p.must(api.OK, tell, 1, 11, whole)
	p.mustEarn(11, 0, 50)
	p.mustEarn(12, 60, 80)
	p.must(api.ErrArg, onward, 0, 12, 20)
}
