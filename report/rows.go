package report

import (
	"iter"
	"slices"

	"quitrent/account"
	"quitrent/api"
)

// telling goes through the contracts that have something to tell of a period, by their numbers, each with the Args of its row.
func telling(l *account.Ledger, period int) iter.Seq2[int, []int64] {
	return func(yield func(int, []int64) bool) {
		for number := range api.MostContracts {
			// Where all of these are 0, all balances through the period are, too, and nothing moved in it; else one of both isn't so.
			if args := told(l, number, period); slices.ContainsFunc(args, isSome) && !yield(number, args) {
				return
			}
		}
	}
}

// told tells of each account the balance through the period ahead, and the movement; the ledger tells 0 of the period ahead of the first one.
func told(l *account.Ledger, number, period int) []int64 {
	var args []int64
	for at := account.Receivable; at <= account.Revenue; at++ {
		args = append(args, l.Balance(at, number, period-1), l.Moved(at, number, period))
	}
	return args
}

// isSome tells whether an amount isn't 0.
func isSome(amount int64) bool { return amount != 0 }
