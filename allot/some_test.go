package allot_test

import (
	"math"
	"slices"
	"testing"

	"quitrent/api"
)

// mustSome holds what each gets, or an error with nothing beside it.
func mustSome(t *testing.T, want []int64, wantErrno api.Errno, price int64, alone []int64, whose []int) {
	t.Helper()
	if got, errno := some(t, price, alone, whose); !slices.Equal(got, want) || errno != wantErrno {
		t.Fatalf("Some of %d, %v, of %v: %v, %d, not %v, %d", price, alone, whose, got, errno, want, wantErrno)
	}
}

// P13.2: ordinary: the discount of one, of two, of the first ones, the last ones, all.
func TestSomeOrdinary(t *testing.T) {
	alone := amounts{30, 50, 20}
	mustSome(t, amounts{20, 50, 20}, api.OK, 90, alone, places{0})
	mustSome(t, amounts{30, 40, 20}, api.OK, 90, alone, places{1})
	mustSome(t, amounts{30, 50, 10}, api.OK, 90, alone, places{2})
	mustSome(t, amounts{26, 44, 20}, api.OK, 90, alone, places{0, 1})
	mustSome(t, amounts{24, 50, 16}, api.OK, 90, alone, places{0, 2})
	mustSome(t, amounts{30, 43, 17}, api.OK, 90, alone, places{1, 2})
	mustSome(t, amounts{27, 45, 18}, api.OK, 90, alone, places{0, 1, 2})
	// More than all are worth alone is of some alone, too.
	mustSome(t, amounts{40, 50, 20}, api.OK, 110, alone, places{0})
	mustSome(t, amounts{36, 50, 24}, api.OK, 110, alone, places{0, 2})
	mustSome(t, amounts{7}, api.OK, 7, amounts{60}, places{0})
	mustSome(t, amounts{0, 9, 1}, api.OK, 10, amounts{0, 9, 3}, places{0, 2})
}

// wrongPlaces are rows of places that are not some of three.
func wrongPlaces() [][]int {
	rows := [][]int{nil, {}, {0, 0}, {1, 1}, {2, 2}, {1, 0}, {2, 1}, {2, 0}, {0, 0, 0}, {0, 0, 1}, {0, 1, 1}, {0, 2, 1}, {1, 0, 2}, {2, 1, 0}, {0, 1, 2, 2}, {0, 1, 2, 0}, {0, 1, 2, 3}, {-1, 0, 1, 2}}
	for _, far := range []int{-1, -2, -3, 3, 4, math.MinInt, math.MinInt + 1, math.MaxInt, math.MaxInt - 1, 1 << 32, 1<<32 + 1, -1 << 32, math.MinInt32, math.MaxInt32} {
		rows = append(rows, []int{far}, []int{far, 0}, []int{0, far}, []int{far, 2}, []int{1, far}, []int{0, far, 2}, []int{0, 1, far}, []int{far, far})
	}
	return rows
}

// P13.2, R6: places that are none, don't rise, or are none of the obligations.
func TestSomePlaces(t *testing.T) {
	for _, whose := range wrongPlaces() {
		for _, price := range []int64{-1, 0, 90, 100, most} {
			mustSome(t, nil, api.ErrArg, price, amounts{30, 50, 20}, whose)
		}
		// Even where another error would fit.
		mustSome(t, nil, api.ErrArg, 90, amounts{most, most, most}, whose)
	}
	for _, alone := range [][]int64{nil, {}} {
		for _, whose := range [][]int{nil, {}, {0}, {-1}, {0, 1}, {math.MaxInt}, {math.MinInt}} {
			mustSome(t, nil, api.ErrArg, 0, alone, whose)
			mustSome(t, nil, api.ErrArg, 100, alone, whose)
		}
	}
	for many := 1; many < 70; many++ {
		alone := same(many, 5)
		mustSome(t, nil, api.ErrArg, 1000, alone, places{-1})
		mustSome(t, nil, api.ErrArg, 1000, alone, places{many})
		mustSome(t, nil, api.ErrArg, 1000, alone, append(firstPlaces(many), many))
		price := int64(5*many - 2)
		mustSome(t, with(alone, 0, 3), api.OK, price, alone, places{0})
		mustSome(t, with(alone, many/2, 3), api.OK, price, alone, places{many / 2})
		mustSome(t, with(alone, many-1, 3), api.OK, price, alone, places{many - 1})
	}
}

// P13.2: as many of some as portion.Out takes, and more; the others don't count there.
func TestSomeHowMany(t *testing.T) {
	for _, many := range []int{64, 65, 66, 100, 1000} {
		alone := same(many, 5)
		whose := firstPlaces(64)
		want := append(same(64, 4), alone[64:]...)
		mustSome(t, want, api.OK, 4*64+5*int64(many-64), alone, whose)
		for i := range whose {
			whose[i] += many - 64
		}
		want = append(same(many-64, 5), same(64, 4)...)
		mustSome(t, want, api.OK, 4*64+5*int64(many-64), alone, whose)
	}
	for _, many := range []int{65, 66, 100, 1000} {
		price := 5 * int64(many)
		for some := 65; some <= many; some += 1 + many/10 {
			mustSome(t, nil, api.ErrFull, price, same(many, 5), firstPlaces(some))
			mustSome(t, nil, api.ErrFull, 0, same(many, 0), firstPlaces(some))
		}
		mustSome(t, nil, api.ErrFull, most, same(many, most), firstPlaces(many))
		mustSome(t, nil, api.ErrArg, price, same(many, 5), append(firstPlaces(many), many))
	}
}

// P13.2: a price from -1 on; what is left of -1, 0 and 1.
func TestSomePrices(t *testing.T) {
	for _, price := range []int64{-1, -2, -most, least} {
		mustSome(t, nil, api.ErrArg, price, amounts{60, 60}, places{0})
		mustSome(t, nil, api.ErrArg, price, amounts{60, 0}, places{0})
		mustSome(t, nil, api.ErrArg, price, amounts{60}, places{0})
	}
	mustSome(t, nil, api.ErrArg, 0, amounts{60, 60}, places{0})
	mustSome(t, nil, api.ErrArg, 59, amounts{60, 60}, places{0})
	mustSome(t, amounts{0, 60}, api.OK, 60, amounts{60, 60}, places{0})
	mustSome(t, amounts{1, 60}, api.OK, 61, amounts{60, 60}, places{0})
	mustSome(t, nil, api.ErrArg, 59, amounts{5, 60, 6}, places{0, 2})
	mustSome(t, amounts{0, 60, 0}, api.OK, 60, amounts{5, 60, 6}, places{0, 2})
	mustSome(t, amounts{0, 60, 1}, api.OK, 61, amounts{5, 60, 6}, places{0, 2})
	mustSome(t, amounts{1, 60, 0}, api.OK, 61, amounts{6, 60, 6}, places{0, 2})
	mustSome(t, amounts{0, 0}, api.OK, 0, amounts{60, 60}, places{0, 1})
	mustSome(t, amounts{0, 0}, api.OK, 0, amounts{60, 0}, places{0})
	mustSome(t, amounts{1, 0}, api.OK, 1, amounts{60, 0}, places{0})
	mustSome(t, amounts{most - 60, 60}, api.OK, most, amounts{60, 60}, places{0})
	mustSome(t, amounts{0, most}, api.OK, most, amounts{60, most}, places{0})
	mustSome(t, amounts{1, most - 1}, api.OK, most, amounts{60, most - 1}, places{0})
	mustSome(t, nil, api.ErrArg, most-1, amounts{60, most}, places{0})
	mustSome(t, nil, api.ErrArg, 0, amounts{60, most}, places{0})
	mustSome(t, amounts{most}, api.OK, most, amounts{most}, places{0})
}

// P13.2: an Alone of -1, 0, 1 and the greatest amount, at the first place, the last one and one between, of some and of another one.
func TestSomeAlones(t *testing.T) {
	for _, many := range []int{1, 2, 3, 5, 64, 65} {
		for _, place := range []int{0, many / 2, many - 1} {
			for _, whose := range [][]int{{0}, {many / 2}, {many - 1}, {place}} {
				for _, below := range []int64{-1, -2, -most, least} {
					mustSome(t, nil, api.ErrArg, 1000, with(same(many, 5), place, below), whose)
					mustSome(t, nil, api.ErrArg, 1000, with(same(many, most), place, below), whose)
				}
				some(t, 1000, with(same(many, 5), place, 0), whose)
				some(t, 1000, with(same(many, 5), place, 1), whose)
				some(t, 1000, with(same(many, 0), place, most), whose)
				some(t, most, with(same(many, 0), place, most), whose)
				some(t, most, with(same(many, 1), place, most), whose)
				mustSome(t, nil, api.ErrArg, 0, same(many, 0), whose)
				mustSome(t, nil, api.ErrArg, 1000, same(many, 0), whose)
			}
		}
	}
	// None of some is worth anything alone, though others are.
	mustSome(t, nil, api.ErrArg, 100, amounts{0, 60}, places{0})
	mustSome(t, nil, api.ErrArg, 60, amounts{0, 60, 0}, places{0, 2})
	mustSome(t, amounts{40, 60, 0}, api.OK, 100, amounts{1, 60, 0}, places{0, 2})
	mustSome(t, amounts{40, 60, 0}, api.OK, 100, amounts{most, 60, 0}, places{0, 2})
	mustSome(t, amounts{40, 0, 60}, api.OK, 100, amounts{40, 0, 61}, places{1, 2})
}

// P13.2: exact sums of the others' Alones, and of those of some, up to the greatest amount, and one more.
func TestSomeSums(t *testing.T) {
	mustSome(t, amounts{0, half, half - 1}, api.OK, most, amounts{5, half, half - 1}, places{0})
	mustSome(t, nil, api.ErrOver, most, amounts{5, half, half}, places{0})
	mustSome(t, nil, api.ErrOver, 0, amounts{most, 5, 1}, places{1})
	mustSome(t, nil, api.ErrOver, most, amounts{most, most, 5}, places{2})
	mustSome(t, nil, api.ErrOver, most, append(same(100, most), 5), places{100})
	mustSome(t, amounts{half, 0, half - 1}, api.OK, most, amounts{half, 0, half - 1}, places{0, 2})
	mustSome(t, nil, api.ErrOver, most, amounts{half, 0, half}, places{0, 2})
	mustSome(t, nil, api.ErrOver, 0, amounts{most, 0, 1}, places{0, 2})
	// All together may be no amount.
	mustSome(t, amounts{most - 1, 1}, api.OK, most, amounts{most, 1}, places{0})
	mustSome(t, amounts{0, most}, api.OK, most, amounts{most, most}, places{0})
}

// P13.2, R2: which error of Some comes first.
func TestSomeErrorsInOrder(t *testing.T) {
	// What may not be, ahead of sums that are no amount.
	mustSome(t, nil, api.ErrArg, -1, amounts{5, most, most}, places{0})
	mustSome(t, nil, api.ErrArg, 1, amounts{-5, most, most}, places{0})
	mustSome(t, nil, api.ErrArg, 1, amounts{5, most, most, -1}, places{0})
	mustSome(t, nil, api.ErrArg, 1, amounts{5, most, most}, places{3})
	// Sums of the others, ahead of what portion.Out refuses.
	mustSome(t, nil, api.ErrOver, 1, amounts{0, most, most}, places{0})
	mustSome(t, nil, api.ErrOver, 1, append(same(65, 1), most, 1), firstPlaces(65))
	mustSome(t, nil, api.ErrOver, 1, append(same(65, 0), most, 1), firstPlaces(65))
	// What is left below 0, ahead of it, too.
	mustSome(t, nil, api.ErrArg, 1, append(same(65, 1), 2), firstPlaces(65))
	mustSome(t, nil, api.ErrArg, 1, amounts{most, most, 2}, places{0, 1})
	mustSome(t, nil, api.ErrFull, 2, append(same(65, 1), 2), firstPlaces(65))
	mustSome(t, nil, api.ErrOver, 2, amounts{most, most, 2}, places{0, 1})
	// Of portion.Out's errors that of too many comes first.
	mustSome(t, nil, api.ErrFull, 2, append(same(65, 0), 2), firstPlaces(65))
	mustSome(t, nil, api.ErrFull, 2, append(same(65, most), 2), firstPlaces(65))
}

// P13.2: each row of up to three out of six Alones, by each row of up to three out of five places, and of some prices.
func TestSomeRows(t *testing.T) {
	kinds := amounts{0, 1, 7, -1, half, most}
	for _, alone := range rowsOf(kinds, 3) {
		for _, whose := range rowsOf(places{-1, 0, 1, 2, 3}, 3) {
			for _, price := range []int64{-1, 0, 8, half + 1, most} {
				some(t, price, alone, whose)
			}
		}
	}
}

// rowsOf tells each row of up to so many out of kinds.
func rowsOf[T any](kinds []T, many int) [][]T {
	rows := [][]T{nil}
	from := 0
	for range many {
		end := len(rows)
		for _, row := range rows[from:end] {
			for _, x := range kinds {
				rows = append(rows, append(slices.Clone(row), x))
			}
		}
		from = end
	}
	return rows
}
