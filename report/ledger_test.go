package report_test

import (
	"testing"

	"quitrent/api"
)

// post posts an amount from one account of a contract to another, past the engine.
func (d *desk) post(period, contract, to, from int, amount int64) {
	d.t.Helper()
	p := []api.Posting{{Account: to, Contract: contract, Amount: amount}, {Account: from, Contract: contract, Amount: -amount}}
	if _, errno := d.e.Ledger().Post(period, p); errno != api.OK {
		d.t.Fatalf("Post of %v in %d: %d", p, period, errno)
	}
}

// args are a row's number and Args, of what two accounts have ahead, and what moves.
func args(number int64, to, from int, ahead, moved int64) []int64 {
	x := make([]int64, 9)
	x[0] = number
	x[1+2*to], x[2+2*to] = ahead, moved
	x[1+2*from], x[2+2*from] = -ahead, -moved
	return x
}

// P19.2: any two accounts that have a balance, that are moved, and that are moved back to 0, as the ledger has it.
func TestRowsOfAnyAccounts(t *testing.T) {
	for to := range 4 {
		for from := range 4 {
			if to == from {
				continue
			}
			d := newDesk(t, weeks(4))
			d.sign(3, row(byDay, 0, 1, 28))
			d.post(1, 3, to, from, 5)
			d.tells(0)
			d.tells(1, args(3, to, from, 0, 5))
			d.tells(2, args(3, to, from, 5, 0))
			d.post(2, 3, to, from, -5)
			d.tells(0)
			d.tells(1, args(3, to, from, 0, 5))
			d.tells(2, args(3, to, from, 5, -5))
			d.tells(3)
		}
	}
}

// P19.2: what moves in a period and back in it, together, is no movement.
func TestRowsOfNoMovement(t *testing.T) {
	d := newDesk(t, weeks(3))
	d.sign(3, row(byDay, 0, 1, 28))
	d.post(1, 3, 0, 3, 5)
	d.post(1, 3, 0, 3, -5)
	for period := range 3 {
		d.tells(period)
	}
	d.post(0, 3, 0, 3, 7)
	d.tells(0, args(3, 0, 3, 0, 7))
	d.tells(1, args(3, 0, 3, 7, 0))
	d.tells(2, args(3, 0, 3, 7, 0))
}

// P19.2: the least amounts that a ledger has.
func TestRowsOfTheLeast(t *testing.T) {
	d := newDesk(t, weeks(2))
	d.sign(0, row(byDay, 0, 1, 28))
	d.post(0, 0, 1, 2, least+1)
	d.post(0, 0, 1, 0, -1)
	d.tells(0, []int64{0, 0, 1, 0, least, 0, most, 0, 0})
	d.tells(1, []int64{0, 1, 0, least, 0, most, 0, 0, 0})
	d.post(1, 0, 1, 3, most)
	d.tells(1, []int64{0, 1, 0, least, most, most, 0, 0, -most})
}
