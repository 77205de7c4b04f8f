package account

import (
	"quitrent/api"
	"quitrent/cents"
)

// place is where a movement stands in each period: an account, of a contract.
type place struct {
	account, contract int
}

// known tells whether there is such an account, and such a contract.
func (at place) known() bool {
	return at.account >= Receivable && at.account <= Revenue && at.contract >= 0 && at.contract < api.MostContracts
}

// wellFormed tells whether postings are as many as an entry may have, all of accounts and contracts that there are.
func wellFormed(p []api.Posting) bool {
	if len(p) == 0 || len(p) > mostPostings {
		return false
	}
	for _, posting := range p {
		if !(place{posting.Account, posting.Contract}).known() {
			return false
		}
	}
	return true
}

// even tells whether postings are together 0, those of each contract.
func even(p []api.Posting) bool {
	amounts := map[int][]int64{}
	for _, posting := range p {
		amounts[posting.Contract] = append(amounts[posting.Contract], posting.Amount)
	}
	for _, l := range amounts {
		if sum, errno := cents.Sum(l); sum != 0 || errno != api.OK {
			return false
		}
	}
	return true
}

// byPlaces puts postings together. The amounts of a place stay a list: they may be no amount together, and yet be one with those that were posted ahead.
func byPlaces(p []api.Posting) map[place][]int64 {
	amounts := map[place][]int64{}
	for _, posting := range p {
		at := place{posting.Account, posting.Contract}
		amounts[at] = append(amounts[at], posting.Amount)
	}
	return amounts
}
