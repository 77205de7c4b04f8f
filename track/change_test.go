package track_test

import (
	"math"
	"testing"

	"quitrent/api"
)

// P15.2: Onward, of each method: what was earned stays, and what is left is by what is done behind the day.
func TestOnward(t *testing.T) {
	p := half(t, ratable, 100)
	p.must(api.OK, onward, 14, 150)
	p.mustStand(14, 150)
	p.mustEarnAll(map[int]int64{9: 0, 10: 10, 13: 40, 14: 50, 15: 70, 16: 90, 18: 130, 19: 150, 20: 150, math.MinInt: 0, math.MaxInt: 150})
	p.must(api.OK, onward, 16, 91)
	p.mustStand(16, 91)
	p.mustEarnAll(map[int]int64{13: 40, 14: 50, 15: 70, 16: 90, 17: 90, 18: 90, 19: 91, 20: 91})
	p = half(t, point, 100)
	p.must(api.OK, onward, 9, 150)
	p.mustStand(9, 150)
	p.mustEarnAll(map[int]int64{8: 0, 9: 0, 10: 150, 11: 150})
	for _, method := range []int{milestone, usage} {
		p = half(t, method, 100)
		p.must(api.OK, onward, 14, 150)
		p.mustStand(14, 150)
		p.mustEarnAll(map[int]int64{13: 0, 14: 50, 15: 50, 18: 50, 19: 150, 20: 150})
		p.must(api.OK, onward, 18, 175)
		p.mustStand(18, 175)
		p.mustEarnAll(map[int]int64{13: 0, 14: 50, 17: 50, 18: 50, 19: 175, 20: 175})
	}
}

// P15.2: Afresh, of each method: as if that had been allotted from the beginning, but ahead of the day what was earned stays.
func TestAfresh(t *testing.T) {
	p := half(t, ratable, 100)
	p.must(api.OK, afresh, 14, 150)
	p.mustStand(14, 150)
	p.mustEarnAll(map[int]int64{9: 0, 10: 10, 13: 40, 14: 75, 15: 90, 18: 135, 19: 150, 20: 150, math.MinInt: 0, math.MaxInt: 150})
	p.must(api.OK, afresh, 16, 9)
	p.mustStand(16, 9)
	p.mustEarnAll(map[int]int64{13: 40, 14: 75, 15: 90, 16: 6, 17: 7, 18: 8, 19: 9, 20: 9})
	p = half(t, point, 100)
	p.must(api.OK, afresh, 12, 30)
	p.mustStand(12, 30)
	p.mustEarnAll(map[int]int64{9: 0, 10: 100, 11: 100, 12: 30, 13: 30})
	for _, method := range []int{milestone, usage} {
		p = half(t, method, 100)
		p.must(api.OK, afresh, 16, 300)
		p.mustStand(16, 300)
		p.mustEarnAll(map[int]int64{13: 0, 14: 50, 15: 50, 16: 150, 18: 150, 19: 300, 20: 300})
		p.must(api.OK, afresh, 19, 3)
		p.mustStand(19, 3)
		p.mustEarnAll(map[int]int64{14: 50, 16: 150, 18: 150, 19: 3, 20: 3})
	}
}

// P15.2: Onward behind Afresh and Afresh behind Onward: a base of what was earned as it is reckoned then, and none.
func TestOneBehindTheOther(t *testing.T) {
	p := half(t, ratable, 100)
	p.must(api.OK, afresh, 12, 200)
	p.must(api.OK, onward, 14, 300)
	p.mustStand(14, 300)
	p.mustEarnAll(map[int]int64{11: 20, 12: 60, 13: 80, 14: 100, 15: 140, 19: 300})
	p.must(api.OK, afresh, 17, 50)
	p.mustStand(17, 50)
	p.mustEarnAll(map[int]int64{11: 20, 12: 60, 14: 100, 16: 180, 17: 40, 18: 45, 19: 50})
	p.must(api.OK, onward, 18, 60)
	p.mustStand(18, 60)
	p.mustEarnAll(map[int]int64{16: 180, 17: 40, 18: 45, 19: 60})
}

// P15.2: days at the bounds of a change, and beyond.
func TestDaysOfChanges(t *testing.T) {
	for _, method := range methods() {
		for _, c := range changes() {
			for _, day := range []int{math.MinInt, math.MinInt32, -2, -1, mostDay + 1, mostDay + 2, 1 << 32, 1<<32 + 12, math.MaxInt} {
				p := half(t, method, 100)
				p.must(api.ErrArg, c, day, 150)
				p.mustStand(0, 100)
			}
			for _, day := range []int{0, 1, 9, 10, 14, 19, 20, mostDay - 1, mostDay} {
				p := half(t, method, 100)
				p.must(api.OK, c, day, 150)
				p.mustStand(day, 150)
				p.same()
			}
		}
	}
	for _, c := range changes() {
		p := half(t, ratable, 100)
		p.must(api.OK, c, 0, 200)
		p.mustEarnAll(map[int]int64{math.MinInt: 0, -1: 0, 0: 0, 9: 0, 10: 20, 19: 200})
		p.must(api.OK, c, mostDay, 300)
		p.mustEarnAll(map[int]int64{19: 200, mostDay - 1: 200, mostDay: 300, math.MaxInt: 300})
	}
}

// P15.2: a day earlier than Since, that day, and a later one, behind each of both.
func TestDaysBesideSince(t *testing.T) {
	for _, method := range methods() {
		for _, first := range changes() {
			for _, c := range changes() {
				changed := func() *pair {
					p := half(t, method, 100)
					p.must(api.OK, first, 14, 200)
					return p
				}
				for _, day := range []int{0, 1, 9, 10, 12, 13} {
					p := changed()
					p.must(api.ErrOrder, c, day, 300)
					p.mustStand(14, 200)
				}
				for _, day := range []int{14, 15, 19, 20, mostDay} {
					p := changed()
					p.must(api.OK, c, day, 300)
					p.mustStand(day, 300)
					p.same()
				}
			}
		}
	}
	for _, c := range changes() {
		p := half(t, ratable, 100)
		p.must(api.OK, c, mostDay, 200)
		p.must(api.ErrOrder, c, mostDay-1, 300)
		p.must(api.OK, c, mostDay, 300)
		p.must(api.ErrArg, c, mostDay+1, 300)
	}
}

// P15.2: Onward to less than what is earned through its day, to just that, and to more.
func TestOnwardToHowMuch(t *testing.T) {
	for _, method := range methods() {
		for _, day := range []int{0, 9, 10, 14, 15, 18, 19, 20, mostDay} {
			earned := half(t, method, 100).m.earned(day)
			for _, allotted := range []int64{math.MinInt64, -1, earned - 2, earned - 1} {
				p := half(t, method, 100)
				p.must(api.ErrArg, onward, day, allotted)
				p.mustStand(0, 100)
			}
			for _, allotted := range []int64{earned, earned + 1, 100, 150, most} {
				p := half(t, method, 100)
				p.must(api.OK, onward, day, allotted)
				p.mustStand(day, allotted)
				p.same()
			}
		}
	}
	p := half(t, ratable, 100)
	p.must(api.ErrArg, onward, 14, 49)
	p.must(api.OK, onward, 14, 50)
	p.mustEarnAll(map[int]int64{13: 40, 14: 50, 15: 50, 19: 50, 20: 50})
	p = half(t, ratable, 0)
	p.must(api.ErrArg, onward, 14, -1)
	p.must(api.OK, onward, 14, 0)
	p.must(api.OK, onward, 14, most)
	p.mustEarnAll(map[int]int64{13: 0, 14: 0, 15: most / 5, 18: 7378697629483820645, 19: most})
	p = half(t, ratable, most)
	p.must(api.ErrArg, onward, 19, most-1)
	p.must(api.ErrArg, onward, 14, most/2-1)
	p.must(api.OK, onward, 14, most/2)
	p.mustEarnAll(map[int]int64{13: 3689348814741910322, 14: most / 2, 19: most / 2})
}

// P15.2: Afresh to below 0, to 0, to less than what is earned through its day, to just that, and to more.
func TestAfreshToHowMuch(t *testing.T) {
	for _, method := range methods() {
		for _, day := range []int{0, 9, 10, 14, 15, 18, 19, 20, mostDay} {
			for _, allotted := range []int64{math.MinInt64, -100, -2, -1} {
				p := half(t, method, 100)
				p.must(api.ErrArg, afresh, day, allotted)
				p.mustStand(0, 100)
			}
			for _, allotted := range []int64{0, 1, 9, 49, 50, 51, 100, 150, most} {
				p := half(t, method, 100)
				p.must(api.OK, afresh, day, allotted)
				p.mustStand(day, allotted)
				p.same()
			}
		}
	}
	p := half(t, ratable, 100)
	p.must(api.OK, afresh, 14, 0)
	p.mustEarnAll(map[int]int64{13: 40, 14: 0, 19: 0, 20: 0})
	p.must(api.OK, afresh, 14, most)
	p.mustEarnAll(map[int]int64{13: 40, 14: most / 2, 19: most})
}

// P15.2: where the whole was done through the day already, what is left is all earned from it on, and not ahead of it.
func TestWholeAlready(t *testing.T) {
	for method, from := range map[int]int{ratable: 19, point: 10, milestone: 19, usage: 19} {
		for _, day := range []int{from, from + 1, 25, mostDay} {
			p := half(t, method, 100)
			before := p.k.Earned(day - 1)
			p.must(api.ErrArg, onward, day, 99)
			p.must(api.OK, onward, day, 150)
			p.mustEarnAll(map[int]int64{day - 1: before, day: 150, day + 1: 150, math.MaxInt: 150})
			p.must(api.ErrArg, onward, day, 149)
			p.must(api.OK, onward, day, 160)
			p.mustEarnAll(map[int]int64{day - 1: before, day: 160, day + 1: 160, math.MaxInt: 160})
			p.must(api.OK, onward, mostDay, most)
			p.mustEarnAll(map[int]int64{mostDay: most, math.MaxInt: most})
			p.must(api.OK, afresh, mostDay, 5)
			p.mustEarnAll(map[int]int64{mostDay: 5, math.MaxInt: 5})
		}
	}
}

// P15.2: as many spans as there may be, and one more, of different days and of one, and all else goes on.
func TestFull(t *testing.T) {
	orders := []func(i int) call{
		func(i int) call { return onward },
		func(i int) call { return afresh },
		func(i int) call { return changes()[i%2] },
	}
	for _, method := range methods() {
		for _, order := range orders {
			for _, step := range []int{0, 1, 3} {
				p := half(t, method, 100)
				for i := 1; i < mostSpans; i++ {
					p.must(api.OK, order(i), 5+i*step, int64(1000+7*i))
					p.mustStand(5+i*step, int64(1000+7*i))
				}
				p.same()
				for _, c := range changes() {
					p.must(api.ErrFull, c, p.k.Since(), 10000)
					p.must(api.ErrFull, c, mostDay, 10000)
				}
				p.do(tell, 17, 6000)
				p.same()
			}
		}
	}
}

// P15.2: several changes of one day: the last one counts from it on, and none of the others does anywhere.
func TestOneDay(t *testing.T) {
	p := half(t, ratable, 100)
	p.must(api.OK, onward, 14, 150)
	p.must(api.OK, onward, 14, 100)
	p.mustStand(14, 100)
	p.mustEarnAll(map[int]int64{13: 40, 14: 50, 15: 60, 19: 100})
	p.must(api.OK, afresh, 14, 40)
	p.mustStand(14, 40)
	p.mustEarnAll(map[int]int64{13: 40, 14: 20, 15: 24, 19: 40})
	p.must(api.ErrArg, onward, 14, 19)
	p.must(api.OK, onward, 14, 20)
	p.mustEarnAll(map[int]int64{13: 40, 14: 20, 15: 20, 19: 20})
	p.must(api.OK, afresh, 14, 1000)
	p.must(api.OK, onward, 14, 1001)
	p.mustEarnAll(map[int]int64{13: 40, 14: 500, 15: 600, 18: 900, 19: 1001})
	for _, c := range changes() {
		p = half(t, usage, 100)
		p.must(api.OK, c, 0, 50)
		p.must(api.OK, c, 0, 70)
		p.mustStand(0, 70)
		p.mustEarnAll(map[int]int64{-1: 0, 0: 0, 13: 0, 14: 35, 19: 70})
	}
}

// P15.2, R2: which error comes first, where more than one would fit.
func TestErrorsInOrder(t *testing.T) {
	for _, c := range changes() {
		p := half(t, ratable, 100)
		p.must(api.OK, afresh, 14, 100)
		p.must(api.ErrArg, c, -1, -1) // earlier than Since, and too little
		p.must(api.ErrArg, c, math.MinInt, 500)
		p.must(api.ErrOrder, c, 13, -1) // too little
		p.must(api.ErrOrder, c, 0, math.MinInt64)
		for range mostSpans - 2 {
			p.must(api.OK, c, 14, 100)
		}
		p.must(api.ErrArg, c, -1, 500) // earlier than Since, and no room
		p.must(api.ErrArg, c, -1, -1)
		p.must(api.ErrArg, c, mostDay+1, 500) // no room
		p.must(api.ErrArg, c, mostDay+1, -1)
		p.must(api.ErrOrder, c, 13, 500) // no room
		p.must(api.ErrOrder, c, 13, -1)
		p.must(api.ErrOrder, c, 0, 500)
		p.must(api.ErrFull, c, 14, 49) // too little, of Onward
		p.must(api.ErrFull, c, 14, -1)
		p.must(api.ErrFull, c, mostDay, math.MinInt64)
	}
}
