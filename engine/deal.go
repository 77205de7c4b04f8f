package engine

import (
	"quitrent/account"
	"quitrent/api"
	"quitrent/contract"
)

// deal is a contract, none where none was signed, and its sums.
type deal struct {
	contract           *contract.Contract
	billed, recognized int64
}

// mayHave tells whether a contract may be of a number.
func mayHave(number int) bool {
	return number >= 0 && number < api.MostContracts
}

// has tells whether there is a contract.
func (e *Engine) has(number int) bool {
	return mayHave(number) && e.deals[number].contract != nil
}

// sign makes a contract.
func (e *Engine) sign(take taker) Reply {
	number, day, may, lines := take.small(), take.small(), take.may(), take.lines()
	if !mayHave(number) {
		return Reply{E: api.ErrName}
	}
	if e.has(number) {
		return Reply{E: api.ErrTwice}
	}
	c, errno := contract.New(e.book, lines, may, e.bound, day)
	if errno != api.OK {
		return Reply{E: errno}
	}
	e.deals[number].contract = c
	return told(c.Price(), int64(c.Many()))
}

// ask does a command of a contract that there is.
func (e *Engine) ask(number, kind int, take taker) Reply {
	c := e.deals[number].contract
	switch kind {
	case toBill:
		return e.bill(number, take.small(), take())
	case toTell:
		return Reply{E: c.Tell(take.small(), take.small(), take())}
	case toOnward:
		return Reply{E: c.Onward(take.small(), take())}
	case toAfresh:
		return Reply{E: c.Afresh(take.small(), take())}
	}
	return earned(c, take.small(), take.small())
}

// earned tells what is earned of an obligation through a day.
func earned(c *contract.Contract, duty, day int) Reply {
	if _, ok := c.Duty(duty); !ok {
		return Reply{E: api.ErrName}
	}
	return told(c.Earned(duty, day))
}

// balance tells an account's balance, of a contract, through a period.
func (e *Engine) balance(at, number, period int) Reply {
	switch {
	case !e.has(number):
		return Reply{E: api.ErrName}
	case at < account.Receivable || at > account.Revenue || period < 0 || period >= e.periods:
		return Reply{E: api.ErrArg}
	}
	return told(e.ledger.Balance(at, number, period))
}

// told is a reply of values.
func told(values ...int64) Reply { return Reply{Values: values} }
