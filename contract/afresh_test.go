package contract_test

import (
	"testing"

	"quitrent/api"
)

// P16.3: ordinary: all of the new price by the Alones, as if from the beginning; ahead of the day all stays.
func TestAfresh(t *testing.T) {
	p := half(t, 300, ratable, usage, point)
	p.must(api.OK, afresh, 0, 14, 90)
	p.mustStand(390, 14, 130, 130, 130)
	p.mustEarn(9, 0, 0, 0)
	p.mustEarn(13, 40, 0, 100)
	p.mustEarn(14, 65, 65, 130)
	p.mustEarn(19, 130, 130, 130)
	p.must(api.OK, afresh, 0, 16, -380)
	p.mustStand(10, 16, 4, 3, 3)
	p.mustEarn(13, 40, 0, 100)
	p.mustEarn(15, 78, 65, 130)
	p.mustEarn(16, 2, 1, 3)
	p.mustEarn(18, 3, 1, 3)
	p.mustEarn(19, 4, 3, 3)
	q := mustSign(t, linesOf(231, little, ratable, point, bundled, apart))
	q.must(api.OK, afresh, 0, 12, 100)
	q.mustStand(331, 12, 1, 86, 86, 29, 129)
}

// P16.3: to one less than 0, to 0, to less than what is earned, to just that, and to more.
func TestAfreshToHowMuch(t *testing.T) {
	for _, day := range []int{1, 10, 14, 19, mostDay} {
		for _, methods := range [][]int{{ratable}, {usage, ratable}, {point, milestone, ratable}} {
			earned := half(t, 299, methods...).c.All(day)
			for _, price := range []int64{-1, -2, -1 << 62} {
				p := half(t, 299, methods...)
				p.must(api.ErrArg, afresh, 0, day, price-299)
				p.must(api.OK, afresh, 0, day, -299)
			}
			for _, price := range []int64{0, 1, 100, max(0, earned-1), earned, earned + 1, 298, 299, 300, most} {
				p := half(t, 299, methods...)
				p.must(api.OK, afresh, 0, day, price-299)
				p.same()
			}
		}
	}
	p := half(t, 200, ratable, usage)
	p.must(api.ErrArg, afresh, 0, 14, -201)
	p.mustStand(200, 1, 100, 100)
	p.must(api.OK, afresh, 0, 14, -200)
	p.mustStand(0, 14, 0, 0)
	p.mustEarn(13, 40, 0)
	p.mustEarn(14, 0, 0)
	p.mustEarn(mostDay, 0, 0)
	p.must(api.ErrArg, afresh, 0, 14, -1)
	p.must(api.OK, afresh, 0, 14, 99)
	p.mustStand(99, 14, 50, 49)
}

// P16.3: where each obligation is whole through the day there may be one, of less and of more.
func TestAfreshWhereWhole(t *testing.T) {
	for _, more := range []int64{-400, -1, 0, 1, 400} {
		for _, day := range []int{19, 20, mostDay} {
			p := half(t, 400, ratable, point, milestone, usage)
			p.must(api.OK, afresh, 0, day, more)
			p.mustEarn(18, 90, 100, 50, 50)
			if p.c.All(day) != 400+more {
				t.Fatalf("%d more: %d", more, p.c.All(day))
			}
			p.same()
		}
	}
}

// P16.3: behind Onward, which let one have more than its share: all is by the Alones again.
func TestAfreshBehindOnward(t *testing.T) {
	p := mustSign(t, linesOf(100, point, usage))
	p.must(api.OK, onward, 0, 12, 20)
	p.mustStand(120, 12, 50, 70)
	p.must(api.OK, afresh, 0, 12, 0)
	p.mustStand(120, 12, 60, 60)
	p.mustEarn(11, 50, 0)
	p.mustEarn(12, 60, 0)
	p.must(api.OK, tell, 1, 11, 1)
	p.mustEarn(11, 50, 50)
	p.mustEarn(12, 60, 60)
}

// P16.3: the greatest price, and what is worth nearly too much alone.
func TestAfreshOfTheGreatest(t *testing.T) {
	lines := linesOf(0, huge, little)
	lines[1].Units = 1<<62 - 1
	p := mustSign(t, lines)
	p.must(api.OK, afresh, 0, 12, most)
	p.mustStand(most, 12, 1<<62, 1<<62-1)
	p.must(api.ErrOver, afresh, 0, 12, 1)
	p.must(api.OK, tell, 0, 13, 1)
	p.mustEarn(13, 1<<62, 0)
	p.must(api.OK, afresh, 0, 13, -1)
	p.mustStand(most-1, 13, 1<<62-1, 1<<62-1)
}
