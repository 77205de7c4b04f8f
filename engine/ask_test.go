package engine_test

import (
	"testing"

	"quitrent/api"
)

// askers are the Kinds of which the Args have a contract's number, and where it stands.
func askers() map[int]int {
	return map[int]int{bill: 0, tell: 0, onward: 0, afresh: 0, earned: 0, balance: 1}
}

// P18.2: a contract that there isn't, ahead of all that comes behind it, but behind the form.
func TestNoSuchContract(t *testing.T) {
	p := newPair(t, four())
	p.must([]int64{100, 1}, sign, days56(0)...)
	for kind, at := range askers() {
		for _, number := range []int64{1, 39, 40, -1, least, most, 1 << 32} {
			args := []int64{-7, -7, -7, -7}[:len(valid()[kind])]
			args[at] = number
			p.mustRefuse(api.ErrName, kind, args...)
			p.mustRefuse(api.ErrForm, kind, append(args, 0)...)
			p.mustRefuse(api.ErrForm, kind, args[:len(args)-1]...)
		}
	}
	for kind, at := range askers() {
		args := valid()[kind]
		args[at] = 1
		p.mustRefuse(api.ErrName, kind, args...)
	}
}

// P18.2: tell with each of the contract's errors.
func TestTell(t *testing.T) {
	p := newPair(t, four())
	p.must([]int64{400, 4}, sign, of(0, 1, nil, row(byDay, 100, 1, 28), row(atOnce, 100, 1, 28), row(percent, 100, 1, 28), []int64{units, 1, 100, 1, 28})...)
	for _, duty := range []int64{-1, 4, 5, 40, most} {
		p.mustRefuse(api.ErrName, tell, 0, duty, 0, 0)
	}
	p.mustRefuse(api.ErrArg, tell, 0, 0, 5, 1)
	p.mustRefuse(api.ErrArg, tell, 0, 1, 5, 1)
	p.must(nil, tell, 0, 2, 5, 3000)
	for _, x := range [][2]int64{{0, 4000}, {mostDay + 1, 4000}, {6, 0}, {6, -1}, {6, whole + 1}, {5, whole + 1}} {
		p.mustRefuse(api.ErrArg, tell, 0, 2, x[0], x[1])
	}
	p.mustRefuse(api.ErrTwice, tell, 0, 2, 5, 2000)
	p.mustRefuse(api.ErrOrder, tell, 0, 2, 6, 2999)
	p.mustRefuse(api.ErrOrder, tell, 0, 2, 4, 3001)
	p.must(nil, tell, 0, 2, 6, 3000)
	p.must([]int64{30}, earned, 0, 2, 6)
	for n := range int64(mostTold - 1) {
		p.must(nil, tell, 0, 3, 100+n, 1)
	}
	p.must([]int64{0}, earned, 0, 3, 99)
	p.must([]int64{100}, earned, 0, 3, 100)
	p.mustRefuse(api.ErrOver, tell, 0, 3, 9, most)
	p.must(nil, tell, 0, 3, 9, most-(mostTold-1))
	p.mustRefuse(api.ErrFull, tell, 0, 3, 9, 1)
	p.must([]int64{100}, earned, 0, 3, 9)
	p.same()
}

// P18.2: earned, of obligations that there are and aren't, through days.
func TestEarned(t *testing.T) {
	p := newPair(t, four())
	p.must([]int64{300, 3}, sign, of(7, 1, nil, row(byDay, 100, 11, 20), row(atOnce, 100, 15, 28), row(percent, 100, 1, 28))...)
	for _, duty := range []int64{least, -1, 3, 4, 7, 1 << 32, most} {
		p.mustRefuse(api.ErrName, earned, 7, duty, 15)
		p.mustRefuse(api.ErrName, earned, 7, duty, least)
	}
	p.must(nil, tell, 7, 2, 12, 2500)
	for day, want := range map[int64][3]int64{-1: {}, 0: {}, 10: {}, 11: {10, 0, 0}, 12: {20, 0, 25}, 15: {50, 100, 25}, 20: {100, 100, 25}, mostDay: {100, 100, 25}, mostDay + 1: {100, 100, 25}} {
		for duty, n := range want {
			p.must([]int64{n}, earned, 7, int64(duty), day)
		}
	}
	p.mustRefuse(api.ErrName, earned, 6, 0, 15)
	p.same()
}

// P18.2: balance of accounts and periods that there are and aren't.
func TestBalance(t *testing.T) {
	p := newPair(t, four())
	p.must([]int64{100, 1}, sign, days56(0)...)
	p.must([]int64{60, 0}, bill, 0, 1, 60)
	p.must([]int64{1}, closing, 0)
	p.must([]int64{30, 0}, bill, 0, 29, 20)
	p.must([]int64{1}, closing, 1)
	for account, want := range [][4]int64{{60, 80, 80, 80}, {-10, 0, 0, 0}, {0, 20, 20, 20}, {-50, -100, -100, -100}} {
		for period, n := range want {
			p.must([]int64{n}, balance, int64(account), 0, int64(period))
		}
	}
	for _, account := range []int64{least, -1, 4, 5, 1 << 32, most} {
		p.mustRefuse(api.ErrArg, balance, account, 0, 0)
		p.mustRefuse(api.ErrName, balance, account, 1, 0)
	}
	for _, period := range []int64{least, -1, 4, 5, mostPeriods - 1, 1 << 32, most} {
		p.mustRefuse(api.ErrArg, balance, 0, 0, period)
		p.mustRefuse(api.ErrName, balance, 0, 1, period)
	}
}

// P18.2: onward and afresh with each of the contract's errors.
func TestChanges(t *testing.T) {
	p := newPair(t, four())
	p.must([]int64{100, 1}, sign, of(0, 5, nil, row(byDay, 100, 1, 10))...)
	for _, kind := range []int{onward, afresh} {
		for _, day := range []int64{0, -1, mostDay + 1} {
			p.mustRefuse(api.ErrArg, kind, 0, day, most)
		}
		p.mustRefuse(api.ErrOrder, kind, 0, 4, most)
		p.mustRefuse(api.ErrOver, kind, 0, 5, most)
		p.mustRefuse(api.ErrOver, kind, 0, 5, most-99)
		p.mustRefuse(api.ErrArg, kind, 0, 5, -101)
		p.mustRefuse(api.ErrArg, kind, 0, 5, least)
	}
	p.mustRefuse(api.ErrArg, onward, 0, 5, -51)
	p.mustRefuse(api.ErrArg, onward, 0, 10, 50) // all is whole
	p.must(nil, onward, 0, 5, 50)
	p.must([]int64{150}, earned, 0, 0, 10)
	p.must([]int64{50}, earned, 0, 0, 5)
	p.must(nil, afresh, 0, 6, -50)
	p.must([]int64{60}, earned, 0, 0, 6)
	for n := range mostChanges - 2 {
		p.must(nil, []int{onward, afresh}[n%2], 0, 6, 1)
	}
	for _, kind := range []int{onward, afresh} {
		p.mustRefuse(api.ErrFull, kind, 0, 6, 1)
		p.mustRefuse(api.ErrFull, kind, 0, 7, most)
		p.mustRefuse(api.ErrOrder, kind, 0, 5, most)
	}
	p.same()
}

// P18.2: onward and afresh up to the greatest price, and down to 0.
func TestChangesOfAll(t *testing.T) {
	p := newPair(t, four())
	p.must([]int64{100, 2}, sign, of(0, 1, nil, row(atOnce, 100, 3, 3), row(percent, 0, 1, 10))...)
	p.must(nil, onward, 0, 1, most-100)
	p.must([]int64{most/2 + 1}, earned, 0, 0, 3)
	p.must(nil, afresh, 0, 2, -most)
	p.must([]int64{0}, earned, 0, 0, 3)
	p.must(nil, afresh, 0, 2, most)
	p.must([]int64{1}, closing, 0)
	p.mustStand(0, 0, most/2+1)
	p.must(nil, afresh, 0, 9, -most)
	p.must([]int64{1}, closing, 1)
	p.mustStand(0, 0, 0)
	p.same()
}
