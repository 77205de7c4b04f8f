package engine

import (
	"quitrent/account"
	"quitrent/api"
	"quitrent/fiscal"
	"quitrent/net"
)

// bill bills an amount at a day of the open period.
func (e *Engine) bill(number, day int, amount int64) Reply {
	if amount < 1 {
		return Reply{E: api.ErrArg}
	}
	if errno := e.refuse(day); errno != api.OK {
		return Reply{E: errno}
	}
	d := &e.deals[number]
	postings, errno := net.Bill(number, d.billed, d.recognized, amount)
	if errno != api.OK {
		return Reply{E: errno}
	}
	if _, errno := e.ledger.Post(e.ledger.Open(), postings); errno != api.OK {
		return Reply{E: errno}
	}
	d.billed += amount
	// It doesn't fail: neither sum is ever below 0.
	liability, asset, _ := net.Sides(d.billed, d.recognized)
	return told(liability, asset)
}

// refuse tells why nothing is billed at a day, or that it may be.
func (e *Engine) refuse(day int) api.Errno {
	period, errno := fiscal.Of(e.calendar, day)
	switch {
	case errno != api.OK:
		return errno
	case period >= e.periods:
		return api.ErrArg
	case period < e.ledger.Open():
		return api.ErrClosed
	case period > e.ledger.Open():
		return api.ErrOrder
	}
	return api.OK
}

// close recognizes what was earned through the open period, and closes it.
func (e *Engine) close(period int) Reply {
	if period != e.ledger.Open() || period >= e.periods {
		return Reply{E: api.ErrArg}
	}
	// It doesn't fail: a calendar has no fewer periods than a ledger may have.
	last, _ := fiscal.Last(e.calendar, period)
	numbers := e.behindhand(last)
	if account.MostEntries-e.ledger.Many() < len(numbers) {
		return Reply{E: api.ErrFull}
	}
	for _, number := range numbers {
		e.recognize(number, period, e.deals[number].contract.All(last))
	}
	e.ledger.Close(period)
	return told(int64(len(numbers)))
}

// behindhand tells the contracts of which what is earned through a day isn't what was recognized.
func (e *Engine) behindhand(day int) []int {
	var numbers []int
	for number, d := range e.deals {
		if d.contract != nil && d.contract.All(day) != d.recognized {
			numbers = append(numbers, number)
		}
	}
	return numbers
}

// recognize posts what is earned, less what was recognized, in the open period. Nothing of it fails: there is room for the entry, and the sums are from 0 on, so that no difference of theirs leaves 64 bits.
func (e *Engine) recognize(number, period int, earned int64) {
	d := &e.deals[number]
	postings, _ := net.Earn(number, d.billed, d.recognized, earned-d.recognized)
	e.ledger.Post(period, postings)
	d.recognized = earned
}
