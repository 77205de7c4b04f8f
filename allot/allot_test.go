package allot_test

import (
	"slices"
	"testing"

	"quitrent/api"
)

// mustAll holds what each gets, or an error with nothing beside it.
func mustAll(t *testing.T, want []int64, wantErrno api.Errno, price int64, alone []int64) {
	t.Helper()
	if got, errno := all(t, price, alone); !slices.Equal(got, want) || errno != wantErrno {
		t.Fatalf("All of %d, %v: %v, %d, not %v, %d", price, alone, got, errno, want, wantErrno)
	}
}

// mustDiscount holds a discount, or an error with nothing beside it.
func mustDiscount(t *testing.T, want int64, wantErrno api.Errno, price int64, alone []int64) {
	t.Helper()
	if got, errno := discount(t, price, alone); got != want || errno != wantErrno {
		t.Fatalf("Discount of %d, %v: %d, %d, not %d, %d", price, alone, got, errno, want, wantErrno)
	}
}

// The chapter's examples.
func TestExamples(t *testing.T) {
	mustAll(t, amounts{50, 50}, api.OK, 100, amounts{60, 60})
	mustSome(t, amounts{40, 60}, api.OK, 100, amounts{60, 60}, places{0})
}

// P13.1: ordinary.
func TestAllOrdinary(t *testing.T) {
	mustAll(t, amounts{2, 7, 1}, api.OK, 10, amounts{1, 5, 1})
	mustAll(t, amounts{100}, api.OK, 100, amounts{7})
	mustAll(t, amounts{34, 33, 33}, api.OK, 100, amounts{1, 1, 1})
	mustAll(t, amounts{30, 50, 20}, api.OK, 100, amounts{30, 50, 20})
	mustAll(t, amounts{27, 45, 18}, api.OK, 90, amounts{30, 50, 20})
	mustAll(t, amounts{60, 100, 40}, api.OK, 200, amounts{30, 50, 20})
	mustAll(t, amounts{0, 10, 0}, api.OK, 10, amounts{0, 3, 0})
	mustAll(t, amounts{1, 1, 0}, api.OK, 2, amounts{4, 5, 3})
}

// P13.1: a price from -1 on, up to the greatest amount.
func TestAllPrices(t *testing.T) {
	for _, alone := range [][]int64{{1}, {60, 60}, {most}, {0, 5, 0}, {half, half - 1}} {
		for _, price := range []int64{-1, -2, -100, -most, least} {
			mustAll(t, nil, api.ErrArg, price, alone)
		}
		mustAll(t, make(amounts, len(alone)), api.OK, 0, alone)
	}
	mustAll(t, amounts{1}, api.OK, 1, amounts{60})
	mustAll(t, amounts{1, 0}, api.OK, 1, amounts{60, 60})
	mustAll(t, amounts{0, 1}, api.OK, 1, amounts{60, 61})
	mustAll(t, amounts{0, 1, 0}, api.OK, 1, amounts{0, 5, 0})
	mustAll(t, amounts{most}, api.OK, most, amounts{1})
	mustAll(t, amounts{most}, api.OK, most, amounts{most})
	mustAll(t, amounts{half, half - 1}, api.OK, most, amounts{60, 60})
	mustAll(t, amounts{half, half - 1}, api.OK, most, amounts{half, half - 1})
	mustAll(t, amounts{0, most, 0}, api.OK, most, amounts{0, 1, 0})
	mustAll(t, amounts{most - 1, 0}, api.OK, most-1, amounts{most, 0})
}

// P13.1, R6: as many obligations as portion.Out takes, and more; none.
func TestAllHowMany(t *testing.T) {
	for _, alone := range [][]int64{nil, {}} {
		for _, price := range []int64{-1, 0, 1, most} {
			mustAll(t, nil, api.ErrArg, price, alone)
		}
	}
	for many := 1; many <= 64; many++ {
		mustAll(t, same(many, 3), api.OK, 3*int64(many), same(many, 50))
		mustAll(t, with(same(many, 3), 0, 4), api.OK, 3*int64(many)+1, same(many, 50))
	}
	for _, many := range []int{65, 66, 100, 1000} {
		mustAll(t, nil, api.ErrFull, 100, same(many, 50))
		mustAll(t, nil, api.ErrFull, 100, same(many, 0))
		mustAll(t, nil, api.ErrFull, 100, same(many, -1))
		mustAll(t, nil, api.ErrFull, 100, same(many, most))
	}
}

// P13.1: an Alone of -1, 0, 1 and the greatest amount, at the first place, the last one and one between.
func TestAllAlones(t *testing.T) {
	for _, many := range []int{1, 2, 3, 5, 64} {
		for _, place := range []int{0, many / 2, many - 1} {
			for _, below := range []int64{-1, -2, -most, least} {
				mustAll(t, nil, api.ErrArg, 100, with(same(many, 5), place, below))
				mustAll(t, nil, api.ErrArg, 0, with(same(many, 0), place, below))
				// Even where all together are above 0, or no amount.
				mustAll(t, nil, api.ErrArg, 100, with(same(many, most), place, below))
			}
			mustAll(t, with(same(many, 0), place, 100), api.OK, 100, with(same(many, 0), place, 1))
			mustAll(t, with(same(many, 0), place, most), api.OK, most, with(same(many, 0), place, most))
			if many > 1 {
				mustAll(t, with(same(many, 5), place, 0), api.OK, 5*int64(many-1), with(same(many, 7), place, 0))
				mustAll(t, nil, api.ErrOver, 100, with(same(many, 1), place, most))
			}
		}
		for _, price := range []int64{0, 1, 100, most} {
			mustAll(t, nil, api.ErrArg, price, same(many, 0))
		}
	}
}

// P13.1: exact sums of Alones up to the greatest amount, and one more.
func TestAllSums(t *testing.T) {
	for _, price := range []int64{0, 1, 100, most} {
		for _, alone := range [][]int64{{most, 1}, {1, most}, {half, half}, {most, 0, 1}, {half, 1, half - 1}, {most, most}, same(64, most)} {
			mustAll(t, nil, api.ErrOver, price, alone)
		}
	}
	mustAll(t, amounts{most - 1, 1}, api.OK, most, amounts{most - 1, 1})
	mustAll(t, amounts{1, most - 1}, api.OK, most, amounts{1, most - 1})
	mustAll(t, amounts{half, 0, half - 1}, api.OK, most, amounts{half, 0, half - 1})
	mustAll(t, amounts{1, 0}, api.OK, 1, amounts{half, half - 1})
	mustAll(t, with(same(63, 1<<57), 0, 1<<57), api.OK, 63<<57, same(63, 1<<57))
	mustAll(t, with(same(64, 1<<57), 63, 1<<57-1), api.OK, most, with(same(64, 1<<57), 63, 1<<57-1))
	mustAll(t, nil, api.ErrOver, most, same(64, 1<<57))
}

// P13.1, R2: which error of All comes first.
func TestAllErrorsInOrder(t *testing.T) {
	mustAll(t, nil, api.ErrArg, -1, same(65, 50))
	mustAll(t, nil, api.ErrArg, -1, amounts{most, 1})
	mustAll(t, nil, api.ErrArg, least, amounts{most, most})
	mustAll(t, nil, api.ErrFull, 1, append(same(64, most), -1))
	mustAll(t, nil, api.ErrArg, 1, amounts{most, 1, -1})
	mustAll(t, nil, api.ErrArg, 1, amounts{-1, most, most})
}

// P13.1: discounts, ordinary: of 0, above it and below; of none, and of more than can be allotted.
func TestDiscountOrdinary(t *testing.T) {
	mustDiscount(t, 20, api.OK, 100, amounts{60, 60})
	mustDiscount(t, 0, api.OK, 120, amounts{60, 60})
	mustDiscount(t, 1, api.OK, 119, amounts{60, 60})
	mustDiscount(t, -1, api.OK, 121, amounts{60, 60})
	mustDiscount(t, 120, api.OK, 0, amounts{60, 60})
	mustDiscount(t, 121, api.OK, -1, amounts{60, 60})
	mustDiscount(t, -5, api.OK, 10, amounts{5})
	mustDiscount(t, 0, api.OK, 0, amounts{0, 0, 0})
	mustDiscount(t, 7, api.OK, 0, amounts{-3, 10})
	mustDiscount(t, -7, api.OK, -3, amounts{-10})
	for _, many := range []int{64, 65, 100, 1000} {
		mustDiscount(t, int64(many)*7-100, api.OK, 100, same(many, 7))
	}
	for _, alone := range [][]int64{nil, {}} {
		for _, price := range []int64{-most, -1, 0, 1, 100, most} {
			mustDiscount(t, -price, api.OK, price, alone)
		}
		mustDiscount(t, 0, api.ErrOver, least, alone)
	}
}

// P13.1: discounts at both ends of what is an amount, and one unit further, also where sums leave 64 bits on the way.
func TestDiscountEnds(t *testing.T) {
	for _, c := range []struct {
		want  int64
		errno api.Errno
		price int64
		alone []int64
	}{
		{most, api.OK, 0, amounts{most}},
		{most, api.OK, 1, amounts{most, 1}},
		{0, api.ErrOver, 0, amounts{most, 1}},
		{0, api.ErrOver, -1, amounts{most}},
		{most, api.OK, most, amounts{most, most}},
		{0, api.ErrOver, most - 1, amounts{most, most}},
		{0, api.ErrOver, most, amounts{most, most, 1}},
		{0, api.OK, most, amounts{half, half - 1}},
		{1, api.OK, most, amounts{half, half}},
		{-most, api.OK, most, amounts{0}},
		{least, api.OK, most, amounts{-1}},
		{0, api.ErrOver, most, amounts{-2}},
		{least, api.OK, 0, amounts{least}},
		{0, api.ErrOver, 1, amounts{least}},
		{least, api.OK, -1, amounts{least, -1}},
		{0, api.ErrOver, 0, amounts{least, -1}},
		{0, api.OK, least, amounts{least}},
		{1, api.OK, least, amounts{least, 1}},
		{most, api.OK, least, amounts{-1}},
		{0, api.ErrOver, least, amounts{0}},
		{most, api.OK, least, amounts{least, most}},
		{0, api.ErrOver, least, amounts{least, most, 1}},
		{least, api.OK, least, amounts{least, least}},
		{0, api.ErrOver, least + 1, amounts{least, least}},
		{0, api.ErrOver, least, amounts{least, least, -1}},
		{-1, api.OK, 100, amounts{most, most, 101, least, least}},
		{-100, api.OK, 100, amounts{least, least, most, most, 2}},
		{0, api.ErrOver, 0, same(64, most)},
		{0, api.ErrOver, 0, same(1000, least)},
	} {
		mustDiscount(t, c.want, c.errno, c.price, c.alone)
	}
}

// P13.1: each row of up to four out of eight Alones, by each of eight prices.
func TestAllRows(t *testing.T) {
	kinds := amounts{0, 1, 2, 7, -1, half, most, least}
	for many := range 5 {
		for n := range 1 << (3 * many) {
			var alone []int64
			for place := range many {
				alone = append(alone, kinds[n>>(3*place)&7])
			}
			for _, price := range append(kinds, 3, most-1) {
				all(t, price, alone)
				discount(t, price, alone)
			}
		}
	}
}
