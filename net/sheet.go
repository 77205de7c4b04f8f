package net

import (
	"quitrent/account"
	"quitrent/api"
	"quitrent/cents"
)

// sheet is the postings of a contract, in the order in which they are laid.
type sheet struct {
	contract int
	postings []api.Posting
}

// debit lays that an account had from and has to, neither below 0, as a debit, if it isn't 0.
func (s *sheet) debit(account int, from, to int64) {
	// It doesn't fail, as neither is below 0.
	amount, _ := cents.Less(to, from)
	if amount != 0 {
		s.postings = append(s.postings, api.Posting{Account: account, Contract: s.contract, Amount: amount})
	}
}

// credit lays it as a credit: the debit the other way round.
func (s *sheet) credit(account int, from, to int64) {
	s.debit(account, to, from)
}

// change lays the postings of sums that change, by ways to lay a debit and a credit.
func change(was, now sums, debit, credit func(account int, from, to int64)) {
	liability, asset := was.sides()
	liabilityNow, assetNow := now.sides()
	debit(account.Receivable, was.billed, now.billed)
	credit(account.Liability, liability, liabilityNow)
	debit(account.Asset, asset, assetNow)
	credit(account.Revenue, was.recognized, now.recognized)
}
