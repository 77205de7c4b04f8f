package allot_test

import (
	"slices"
	"testing"

	"quitrent/api"
)

// mustAgain holds what each gets, or an error with nothing beside it.
func mustAgain(t *testing.T, want []int64, wantErrno api.Errno, total int64, done, alone []int64) {
	t.Helper()
	if got, errno := again(t, total, done, alone); !slices.Equal(got, want) || errno != wantErrno {
		t.Fatalf("Again of %d, %v, %v: %v, %d, not %v, %d", total, done, alone, got, errno, want, wantErrno)
	}
}

// P13.3: ordinary: what is left above 0, 0, and below.
func TestAgainOrdinary(t *testing.T) {
	mustAgain(t, amounts{50, 70}, api.OK, 120, amounts{50, 50}, amounts{0, 60})
	mustAgain(t, amounts{60, 60}, api.OK, 120, amounts{50, 50}, amounts{60, 60})
	mustAgain(t, amounts{50, 50}, api.OK, 100, amounts{50, 50}, amounts{60, 60})
	mustAgain(t, amounts{40, 40}, api.OK, 80, amounts{50, 50}, amounts{60, 60})
	mustAgain(t, amounts{12, 27, 31}, api.OK, 70, amounts{10, 20, 30}, amounts{1, 5, 1})
	mustAgain(t, amounts{8, 13, 29}, api.OK, 50, amounts{10, 20, 30}, amounts{1, 5, 1})
	mustAgain(t, amounts{51, 50}, api.OK, 101, amounts{50, 50}, amounts{60, 60})
	mustAgain(t, amounts{49, 50}, api.OK, 99, amounts{50, 50}, amounts{60, 60})
	mustAgain(t, amounts{-90, -10}, api.OK, -100, amounts{0, 0}, amounts{9, 1})
	mustAgain(t, amounts{-5, 15}, api.OK, 10, amounts{-10, 10}, amounts{1, 1})
	mustAgain(t, amounts{-1}, api.OK, -1, amounts{0}, amounts{7})
	mustAgain(t, amounts{0}, api.OK, 0, amounts{-most}, amounts{7})
}

// P13.3, R6: as many done as alone, and one more or less; none of both.
func TestAgainHowMany(t *testing.T) {
	for many := range 67 {
		for _, done := range []int{many - 1, many + 1, 0, 2*many + 1} {
			if done >= 0 && done != many {
				mustAgain(t, nil, api.ErrArg, 100, same(done, 1), same(many, 5))
				mustAgain(t, nil, api.ErrArg, 100, same(many, 1), same(done, 5))
			}
		}
	}
	for _, done := range [][]int64{nil, {}} {
		for _, alone := range [][]int64{nil, {}} {
			for _, total := range []int64{least, -1, 0, 1, most} {
				mustAgain(t, nil, api.ErrArg, total, done, alone)
			}
		}
	}
	for many := 1; many <= 64; many++ {
		mustAgain(t, same(many, 10), api.OK, 10*int64(many), same(many, 7), same(many, 5))
		mustAgain(t, same(many, 4), api.OK, 4*int64(many), same(many, 7), same(many, 5))
	}
	for _, many := range []int{65, 66, 100, 1000} {
		mustAgain(t, nil, api.ErrFull, 100, same(many, 7), same(many, 5))
		mustAgain(t, nil, api.ErrFull, 100, same(many, 0), same(many, 0))
		mustAgain(t, nil, api.ErrFull, 100, same(many, 0), same(many, -1))
		mustAgain(t, nil, api.ErrFull, 100, same(many, 0), same(many, most))
	}
}

// P13.3: an Alone of -1, 0, 1 and the greatest amount, at the first place, the last one and one between; all of them 0.
func TestAgainAlones(t *testing.T) {
	for _, many := range []int{1, 2, 3, 5, 64} {
		done := same(many, 10)
		total := 10 * int64(many)
		for _, place := range []int{0, many / 2, many - 1} {
			for _, left := range []int64{-7, 0, 7} {
				for _, below := range []int64{-1, -2, -most, least} {
					mustAgain(t, nil, api.ErrArg, total+left, done, with(same(many, 5), place, below))
					mustAgain(t, nil, api.ErrArg, total+left, done, with(same(many, most), place, below))
				}
				want := with(done, place, 10+left)
				mustAgain(t, want, api.OK, total+left, done, with(same(many, 0), place, 1))
				mustAgain(t, want, api.OK, total+left, done, with(same(many, 0), place, most))
				mustAgain(t, nil, api.ErrArg, total+left, done, same(many, 0))
				if many > 1 {
					mustAgain(t, nil, api.ErrOver, total+left, done, with(same(many, 1), place, most))
					again(t, total+left, done, with(same(many, 5), place, 0))
				}
			}
		}
	}
}

// P13.3: exact sums of what is done, at both ends of what is an amount, and one unit further.
func TestAgainSums(t *testing.T) {
	mustAgain(t, amounts{most, 0}, api.OK, most, amounts{most, 0}, amounts{1, 1})
	mustAgain(t, amounts{half, half - 1}, api.OK, most, amounts{half, half - 1}, amounts{1, 1})
	mustAgain(t, nil, api.ErrOver, most, amounts{half, half}, amounts{1, 1})
	mustAgain(t, nil, api.ErrOver, most, amounts{most, 1}, amounts{1, 1})
	mustAgain(t, nil, api.ErrOver, 1, amounts{1, most}, amounts{1, 1})
	mustAgain(t, amounts{least, 0}, api.OK, least, amounts{least, 0}, amounts{1, 1})
	mustAgain(t, amounts{-half, -half}, api.OK, least, amounts{-half, -half}, amounts{1, 1})
	mustAgain(t, nil, api.ErrOver, least, amounts{-half, -half - 1}, amounts{1, 1})
	mustAgain(t, nil, api.ErrOver, least, amounts{least, -1}, amounts{1, 1})
	mustAgain(t, nil, api.ErrOver, -1, amounts{-1, least}, amounts{1, 1})
	// Sums that leave 64 bits on the way, and come back.
	mustAgain(t, amounts{most, most, -most, 3 - most}, api.OK, 3, amounts{most, most, -most, -most}, amounts{0, 0, 0, 5})
	mustAgain(t, amounts{least, least, most, most, 9}, api.OK, 7, amounts{least, least, most, most, 2}, amounts{0, 0, 0, 0, 1})
	mustAgain(t, nil, api.ErrOver, 0, amounts{most, most, least, least, 1, least}, same(6, 1))
	mustAgain(t, nil, api.ErrOver, 0, amounts{most, least, most, 2}, same(4, 1))
}

// P13.3: what is left of the total, at both ends of what is an amount, and one unit further.
func TestAgainLeft(t *testing.T) {
	mustAgain(t, nil, api.ErrOver, most, amounts{-1}, amounts{1})
	mustAgain(t, amounts{most}, api.OK, most, amounts{0}, amounts{1})
	mustAgain(t, amounts{most - 1}, api.OK, most-1, amounts{-1}, amounts{1})
	mustAgain(t, nil, api.ErrOver, 0, amounts{least}, amounts{1})
	mustAgain(t, amounts{-1}, api.OK, -1, amounts{least}, amounts{1})
	mustAgain(t, nil, api.ErrOver, least, amounts{1}, amounts{1})
	mustAgain(t, amounts{least + 1}, api.OK, least+1, amounts{0}, amounts{1})
	mustAgain(t, amounts{least}, api.OK, least, amounts{-1}, amounts{1})
	// What is left is -2^63: an amount, but portion.Out refuses it.
	mustAgain(t, nil, api.ErrOver, least, amounts{0}, amounts{1})
	mustAgain(t, nil, api.ErrOver, -1, amounts{most}, amounts{1})
	mustAgain(t, amounts{0}, api.OK, 0, amounts{most}, amounts{1})
	// A total that would make up for what is done doesn't, where that is no amount.
	mustAgain(t, nil, api.ErrOver, most, amounts{most, 1}, amounts{1, 1})
	mustAgain(t, nil, api.ErrOver, least, amounts{least, -1}, amounts{1, 1})
}

// P13.3: shares whose sum with what is done is no amount, at each place, and those one unit less.
func TestAgainShares(t *testing.T) {
	mustAgain(t, amounts{most, 6 - most}, api.OK, 6, amounts{most - 5, -most + 5}, amounts{5, 1})
	mustAgain(t, nil, api.ErrOver, 10, amounts{most, -most}, amounts{1, 1})
	mustAgain(t, nil, api.ErrOver, 10, amounts{-most, most}, amounts{1, 1})
	mustAgain(t, nil, api.ErrOver, 10, amounts{most - 4, 4 - most}, amounts{1, 1})
	mustAgain(t, amounts{most, 10 - most}, api.OK, 10, amounts{most - 5, 5 - most}, amounts{1, 1})
	mustAgain(t, amounts{10 - most, most}, api.OK, 10, amounts{5 - most, most - 5}, amounts{1, 1})
	mustAgain(t, amounts{least, most - 9}, api.OK, -10, amounts{least + 5, most - 4}, amounts{1, 1})
	mustAgain(t, nil, api.ErrOver, -10, amounts{least + 4, most - 3}, amounts{1, 1})
	mustAgain(t, nil, api.ErrOver, -10, amounts{most - 3, least + 4}, amounts{1, 1})
	for _, place := range []int{0, 1, 31, 62, 63} {
		done := with(with(same(64, 0), place, most), (place+1)%64, -most)
		mustAgain(t, nil, api.ErrOver, 64, done, same(64, 1))
		done[place]--
		again(t, 63, done, same(64, 1))
		done = with(with(same(64, 0), place, least), (place+1)%64, most)
		mustAgain(t, nil, api.ErrOver, -65, done, same(64, 1))
	}
	// What has no share stays what it is, at both ends.
	mustAgain(t, amounts{most, -most, 10}, api.OK, 10, amounts{most, -most, 0}, amounts{0, 0, 1})
	mustAgain(t, amounts{least, most, -9}, api.OK, -10, amounts{least, most, 0}, amounts{0, 0, 1})
}

// P13.3, R2: which error of Again comes first.
func TestAgainErrorsInOrder(t *testing.T) {
	mustAgain(t, nil, api.ErrArg, 1, amounts{most, 1}, amounts{1})
	mustAgain(t, nil, api.ErrArg, 1, same(65, most), same(66, 1))
	mustAgain(t, nil, api.ErrArg, least, amounts{1, 1}, amounts{-1, 1, 1})
	mustAgain(t, nil, api.ErrOver, 1, same(65, most), same(65, 1))
	mustAgain(t, nil, api.ErrOver, 1, amounts{most, 1}, amounts{-1, 1})
	mustAgain(t, nil, api.ErrOver, 1, amounts{most, 1}, amounts{0, 0})
	mustAgain(t, nil, api.ErrOver, least, amounts{1, 0}, amounts{0, 0})
	mustAgain(t, nil, api.ErrOver, most, with(same(65, 0), 64, -1), same(65, 1))
	mustAgain(t, nil, api.ErrFull, 10, append(amounts{most, -most}, same(63, 0)...), same(65, most))
	mustAgain(t, nil, api.ErrFull, least, same(65, 0), same(65, 1))
	mustAgain(t, nil, api.ErrArg, 10, amounts{most, -most}, amounts{0, 0})
	mustAgain(t, nil, api.ErrArg, 10, amounts{most, -most}, amounts{most, -1})
	mustAgain(t, nil, api.ErrArg, least, amounts{0, 0}, amounts{0, 0})
	mustAgain(t, nil, api.ErrOver, 10, amounts{0, 0}, amounts{most, 1})
}

// P13.3: each row of up to three out of seven that are done, by each row of up to three out of six Alones, and of some totals.
func TestAgainRows(t *testing.T) {
	rows := rowsOf(amounts{0, 1, 7, -1, half, most}, 3)
	for _, done := range rowsOf(amounts{0, 5, -1, half, most, -most, least}, 3) {
		for _, alone := range rows {
			if len(done) != len(alone) && len(done)+len(alone) > 3 {
				continue
			}
			for _, total := range []int64{-3, 0, 4, most, least} {
				again(t, total, done, alone)
			}
		}
	}
}
