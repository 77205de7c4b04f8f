package account_test

import (
	"math"
	"testing"

	"quitrent/account"
	"quitrent/api"
)

// both are two postings of a contract that are even: an account's, and another's.
func both(contract, account, other int, amount int64) []api.Posting {
	return []api.Posting{{Account: account, Contract: contract, Amount: amount}, {Account: other, Contract: contract, Amount: -amount}}
}

// many are so many postings of amounts 0.
func many(count int) []api.Posting {
	return make([]api.Posting, count)
}

// P9.1: the accounts, and how many entries there may be.
func TestNames(t *testing.T) {
	if account.Receivable != 0 || account.Liability != 1 || account.Asset != 2 || account.Revenue != 3 || account.MostEntries != 5000 {
		t.Fatal("the constants are others")
	}
}

// P9.1: New, of each number of periods that there may be, and of others.
func TestNew(t *testing.T) {
	for _, periods := range []int{math.MinInt, -240, -1, 0, 241, 242, math.MaxInt} {
		if l, errno := account.New(periods); l != nil || errno != api.ErrArg {
			t.Fatalf("New of %d: %v, %d", periods, l, errno)
		}
	}
	for periods := 1; periods <= 240; periods++ {
		p := newPair(t, periods)
		if p.l.Open() != 0 || p.l.Many() != 0 {
			t.Fatalf("New of %d: Open %d, Many %d", periods, p.l.Open(), p.l.Many())
		}
		p.must(api.ErrArg, p.post(periods, many(1)...))
		p.must(api.OK, p.post(periods-1, many(1)...))
	}
	for _, periods := range []int{1, 2, 240} {
		newPair(t, periods).same()
	}
}

// P9.1: two ledgers share nothing.
func TestTwo(t *testing.T) {
	p, q := newPair(t, 2), newPair(t, 2)
	p.must(api.OK, p.post(1, both(0, 0, 3, 5)...))
	p.must(api.OK, p.close(0))
	p.same()
	q.same()
	q.must(api.OK, q.post(0, both(0, 0, 1, 7)...))
	p.same()
	q.same()
}

// P9.2, P9.4: the chapter's example.
func TestExample(t *testing.T) {
	l, _ := account.New(1)
	if n, errno := l.Post(0, []api.Posting{{Account: 0, Amount: 50}, {Account: 1, Amount: -50}}); n != 0 || errno != api.OK {
		t.Fatalf("Post: %d, %d", n, errno)
	}
	if a, b := l.Balance(0, 0, 0), l.Balance(1, 0, 0); a != 50 || b != -50 {
		t.Fatalf("balances %d, %d", a, b)
	}
}

// P9.2: entries are numbered from 0 on, in whichever periods they are.
func TestNumbers(t *testing.T) {
	p := newPair(t, 3)
	for i, period := range []int{2, 0, 1, 1, 0, 2} {
		if n, errno := p.l.Post(period, both(i, 0, 3, int64(i))); n != i || errno != api.OK {
			t.Fatalf("Post %d: %d, %d", i, n, errno)
		}
		p.m.post(period, both(i, 0, 3, int64(i)))
		p.same()
	}
}

// P9.2: each account, and each contract that there is, and those that there are none of, at each place of a list.
func TestWhichPostings(t *testing.T) {
	for _, at := range []int{math.MinInt, -1, 0, 1, 2, 3, 4, math.MaxInt} {
		for _, contract := range []int{math.MinInt, -1, 0, 1, 38, 39, 40, math.MaxInt} {
			for place := range 3 {
				p, l := newPair(t, 2), many(3)
				l[place].Account, l[place].Contract = at, contract
				want := api.OK
				if at < 0 || at > 3 || contract < 0 || contract > 39 {
					want = api.ErrArg
				}
				p.must(want, p.post(1, l...))
				p.same()
			}
		}
	}
}

// P9.2: none, one, 32 and 33 postings, and those between.
func TestHowManyPostings(t *testing.T) {
	for count := range 70 {
		p := newPair(t, 2)
		want := api.OK
		if count < 1 || count > 32 {
			want = api.ErrArg
		}
		p.must(want, p.post(0, many(count)...))
		p.same()
	}
	p := newPair(t, 1)
	if n, errno := p.l.Post(0, []api.Posting{}); n != 0 || errno != api.ErrArg {
		t.Fatalf("Post of an empty list: %d, %d", n, errno)
	}
}

// P9.2: periods that there are, that there are none of, that are closed, and that are open.
func TestWhichPeriod(t *testing.T) {
	for closed := range 6 {
		p := newPair(t, 5)
		for period := range closed {
			p.must(api.OK, p.close(period))
		}
		for _, period := range []int{math.MinInt, -1, 0, 1, 2, 3, 4, 5, 6, math.MaxInt} {
			want := api.OK
			switch {
			case period < 0 || period > 4:
				want = api.ErrArg
			case period < closed:
				want = api.ErrClosed
			}
			p.must(want, p.post(period, both(39, 0, 1, 3)...))
			p.same()
		}
	}
}

// P9.2: postings that are even, and that are not; of each contract, exactly.
func TestEven(t *testing.T) {
	for i, c := range []struct {
		want api.Errno
		l    []api.Posting
	}{
		{api.OK, []api.Posting{{}}},
		{api.ErrEven, []api.Posting{{Amount: 1}}},
		{api.ErrEven, []api.Posting{{Amount: -1}}},
		{api.OK, []api.Posting{{Amount: 7}, {Amount: -7}}},
		{api.OK, []api.Posting{{Amount: 7}, {Account: 2, Amount: -3}, {Amount: -3}, {Account: 3, Amount: -1}}},
		{api.ErrEven, []api.Posting{{Amount: 7}, {Account: 2, Amount: -3}, {Amount: -3}, {Account: 3, Amount: -2}}},
		{api.ErrEven, []api.Posting{{Contract: 0, Amount: 7}, {Contract: 1, Amount: -7}}},
		{api.ErrEven, []api.Posting{{Contract: 38, Amount: 7}, {Contract: 39, Amount: -7}}},
		{api.ErrEven, []api.Posting{{Contract: 0, Amount: 7}, {Contract: 0, Amount: -7}, {Contract: 1, Amount: -7}}},
		{api.ErrEven, []api.Posting{{Contract: 1, Amount: -7}, {Contract: 0, Amount: 7}, {Contract: 0, Amount: -7}}},
		{api.OK, []api.Posting{{Contract: 5, Amount: 7}, {Contract: 2, Amount: 1}, {Contract: 5, Account: 1, Amount: -7}, {Contract: 2, Account: 3, Amount: -1}}},
		{api.OK, []api.Posting{{Amount: most}, {Account: 1, Amount: 1}, {Account: 2, Amount: least}}},
		{api.ErrEven, []api.Posting{{Amount: least}, {Account: 1, Amount: least}}},
		{api.ErrEven, []api.Posting{{Amount: most}, {Account: 1, Amount: most}, {Account: 2, Amount: 2}}},
		{api.OK, []api.Posting{{Amount: most}, {Account: 1, Amount: most}, {Account: 2, Amount: -most}, {Account: 3, Amount: -most}}},
		{api.ErrEven, []api.Posting{{Amount: most}, {Account: 1, Amount: most}, {Account: 2, Amount: least}, {Account: 3, Amount: least}}},
		{api.OK, []api.Posting{{Amount: least}, {Account: 1, Amount: least}, {Account: 2, Amount: most}, {Account: 3, Amount: most}, {Account: 2}, {Account: 1, Amount: 2}}},
	} {
		p := newPair(t, 2)
		if errno := p.post(1, c.l...); errno != c.want {
			t.Fatalf("case %d: error %d, not %d", i, errno, c.want)
		}
		p.same()
	}
}

// P9.2: 4999, 5000 and 5001 entries, by Post and by Reverse.
func TestFull(t *testing.T) {
	for name, last := range map[string]func(l *account.Ledger) (int, api.Errno){
		"Post":    func(l *account.Ledger) (int, api.Errno) { return l.Post(1, both(0, 0, 3, 1)) },
		"Reverse": func(l *account.Ledger) (int, api.Errno) { return l.Reverse(0, 1) },
	} {
		l, _ := account.New(2)
		fill(t, l, account.MostEntries-1)
		if n, errno := last(l); n != account.MostEntries-1 || errno != api.OK || l.Many() != account.MostEntries {
			t.Fatalf("%s of entry 5000: %d, %d; there are %d", name, n, errno, l.Many())
		}
		balance := l.Balance(0, 0, 1)
		for range 2 {
			if n, errno := l.Post(1, both(0, 0, 3, 1)); n != 0 || errno != api.ErrFull {
				t.Fatalf("Post of entry 5001: %d, %d", n, errno)
			}
			if n, errno := l.Reverse(1, 1); n != 0 || errno != api.ErrFull {
				t.Fatalf("Reverse, entry 5001: %d, %d", n, errno)
			}
		}
		if _, _, errno := l.Entry(account.MostEntries); errno != api.ErrName || l.Many() != account.MostEntries || l.Balance(0, 0, 1) != balance {
			t.Fatal("what was refused was posted")
		}
		if period, p, errno := l.Entry(account.MostEntries - 2); period != 1 || len(p) != 2 || errno != api.OK {
			t.Fatalf("Entry of 4998: %d, %v, %d", period, p, errno)
		}
	}
}

// fill posts entries of 1 in period 1, till there are so many.
func fill(t *testing.T, l *account.Ledger, count int) {
	t.Helper()
	for i := l.Many(); i < count; i++ {
		if n, errno := l.Post(1, both(0, 0, 3, 1)); n != i || errno != api.OK {
			t.Fatalf("entry %d: %d, %d", i, n, errno)
		}
	}
}

// P9.2: of errors that fit, the first one: each set of them.
func TestOrder(t *testing.T) {
	for _, full := range []bool{false, true} {
		l, _ := account.New(3)
		l.Post(1, both(7, account.Asset, account.Revenue, most))
		l.Close(0)
		if full {
			fill(t, l, account.MostEntries)
		}
		for set := range 16 {
			bad, closed, uneven, over := set&1 > 0, set&2 > 0, set&4 > 0, set&8 > 0
			period, list := 1, both(1, account.Receivable, account.Liability, 1)
			if over {
				// Through period 1, also where the entry is in period 0.
				list = append(list, both(7, account.Asset, account.Receivable, 1)...)
			}
			if closed {
				period = 0
			}
			if uneven {
				list = append(list, api.Posting{Contract: 2, Amount: 1})
			}
			if bad {
				list = append(list, api.Posting{Account: 4})
			}
			n, errno := l.Post(period, list)
			if want := firstOf(bad, closed, uneven, full, over); errno != want || (want != api.OK && n != 0) {
				t.Fatalf("full %v, set %d: %d, %d, not %d", full, set, n, errno, want)
			}
		}
	}
}

// firstOf tells the first error of Post that fits.
func firstOf(bad, closed, uneven, full, over bool) api.Errno {
	switch {
	case bad:
		return api.ErrArg
	case closed:
		return api.ErrClosed
	case uneven:
		return api.ErrEven
	case full:
		return api.ErrFull
	case over:
		return api.ErrOver
	}
	return api.OK
}

// P9.3: Close of the first open period, of one ahead of it, behind it, and of none, through all periods.
func TestClose(t *testing.T) {
	for _, periods := range []int{1, 2, 5, 240} {
		l, _ := account.New(periods)
		for open := range periods + 1 {
			for _, period := range []int{math.MinInt, -1, 0, open - 2, open - 1, open + 1, open + 2, periods - 1, periods, periods + 1, math.MaxInt} {
				if period == open && open < periods {
					continue
				}
				if errno := l.Close(period); errno != api.ErrArg || l.Open() != open {
					t.Fatalf("of %d periods, Close of %d where %d is open: %d; Open %d", periods, period, open, errno, l.Open())
				}
			}
			want, then := api.OK, open+1
			if open == periods {
				want, then = api.ErrArg, periods
			}
			if errno := l.Close(open); errno != want || l.Open() != then {
				t.Fatalf("of %d periods, Close of %d: %d; Open %d", periods, open, errno, l.Open())
			}
		}
	}
}

// P9.1, P9.2: what Entry answers shares nothing with what was posted, nor with what it answers next, nor with its reversal.
func TestShares(t *testing.T) {
	p := newPair(t, 2)
	list := both(0, 0, 3, 5)
	if _, errno := p.l.Post(1, list); errno != api.OK {
		t.Fatalf("error %d", errno)
	}
	p.m.post(1, both(0, 0, 3, 5))
	list[0].Amount = 9
	list = append(list[:1], api.Posting{})
	p.same()
	_, told, _ := p.l.Entry(0)
	told[0], told[1] = api.Posting{Amount: 1}, api.Posting{Account: 2, Amount: 1}
	p.same()
	p.must(api.OK, p.reverse(0, 0))
	_, told, _ = p.l.Entry(1)
	told[0].Amount, told[1].Amount = 11, 12
	_, told, _ = p.l.Entry(0)
	told[0].Amount, told[1].Amount = 13, 14
	p.same()
}
