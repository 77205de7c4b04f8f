package account

import (
	"quitrent/api"
	"quitrent/cents"
)

// Moved tells movements.
func (l *Ledger) Moved(account, contract, period int) int64 {
	// A place that has no row, or that isn't one, is as one that didn't move.
	row := l.moved[place{account, contract}]
	if row == nil || !l.has(period) {
		return 0
	}
	return row[period]
}

// Balance tells balances.
func (l *Ledger) Balance(account, contract, period int) int64 {
	row := l.moved[place{account, contract}]
	if row == nil || !l.has(period) {
		return 0
	}
	// Post lets in nothing by which a balance would be no amount.
	balance, _ := cents.Sum(row[:period+1])
	return balance
}

// Total tells the balances of all contracts.
func (l *Ledger) Total(account, period int) (int64, api.Errno) {
	if !(place{account: account}).known() || !l.has(period) {
		return 0, api.ErrArg
	}
	balances := make([]int64, api.MostContracts)
	for contract := range balances {
		balances[contract] = l.Balance(account, contract, period)
	}
	return cents.Sum(balances)
}

// after tells what the movements of a period are with postings more in it.
func (l *Ledger) after(period int, p []api.Posting) (map[place]int64, api.Errno) {
	after := map[place]int64{}
	for at, amounts := range byPlaces(p) {
		movement, errno := with(l.Moved(at.account, at.contract, period), amounts)
		if errno != api.OK {
			return nil, errno
		}
		if !l.balances(at, period, amounts) {
			return nil, api.ErrOver
		}
		after[at] = movement
	}
	return after, api.OK
}

// balances tells whether the balances of a place, through a period and through each behind it, stay amounts with amounts more: they do if the lowest and the highest do.
func (l *Ledger) balances(at place, period int, amounts []int64) bool {
	low, high := l.reach(at, period)
	_, under := with(low, amounts)
	_, over := with(high, amounts)
	return under == api.OK && over == api.OK
}

// reach tells the lowest and the highest of the balances of a place, through a period and through each behind it.
func (l *Ledger) reach(at place, period int) (int64, int64) {
	row := l.moved[at]
	if row == nil {
		return 0, 0
	}
	balance := l.Balance(at.account, at.contract, period)
	low, high := balance, balance
	for _, movement := range row[period+1:] {
		// Post lets in nothing by which a balance would be no amount.
		balance, _ = cents.Add(balance, movement)
		low, high = min(low, balance), max(high, balance)
	}
	return low, high
}

// with tells a number and amounts, together.
func with(n int64, amounts []int64) (int64, api.Errno) {
	return cents.Sum(append([]int64{n}, amounts...))
}

// move lays what a movement is now.
func (l *Ledger) move(at place, period int, movement int64) {
	if l.moved[at] == nil {
		l.moved[at] = make([]int64, l.periods)
	}
	l.moved[at][period] = movement
}
