package account_test

import (
	"math"
	"testing"

	"quitrent/account"
	"quitrent/api"
)

// step is an entry of account 0 of contract 0, even by account 3 of it: so much in a period, in as many postings as there are amounts.
type step struct {
	period  int
	amounts []int64
	want    api.Errno
}

// postings are those of a step; against an amount stand two postings, as one of -2^63 has no opposite.
func (s step) postings() []api.Posting {
	var l []api.Posting
	for _, n := range s.amounts {
		half := n / 2
		l = append(l, api.Posting{Amount: n}, api.Posting{Account: 3, Amount: -half}, api.Posting{Account: 2, Amount: -(n - half)})
	}
	return l
}

// P9.2: movements and balances of 2^63 - 1 and -2^63, and one further, in this period and in others.
func TestOver(t *testing.T) {
	one := func(n ...int64) []int64 { return n }
	for i, steps := range [][]step{
		// movements and balances at their bounds, and one further
		{{1, one(most), api.OK}, {1, one(1), api.ErrOver}, {1, one(-1), api.OK}, {1, one(2), api.ErrOver}, {1, one(1), api.OK}, {1, one(0), api.OK}},
		{{1, one(least), api.OK}, {1, one(-1), api.ErrOver}, {1, one(1), api.OK}, {1, one(-2), api.ErrOver}, {1, one(-1), api.OK}, {1, one(0), api.OK}},
		{{0, one(most), api.OK}, {0, one(most), api.ErrOver}, {0, one(least), api.OK}, {0, one(least), api.ErrOver}, {0, one(-most), api.OK}},
		// the movement alone
		{{0, one(least), api.OK}, {1, one(most), api.OK}, {1, one(1), api.ErrOver}, {1, one(0), api.OK}, {0, one(1), api.OK}, {2, one(1), api.OK}},
		{{0, one(most), api.OK}, {1, one(least), api.OK}, {1, one(-1), api.ErrOver}, {1, one(0), api.OK}, {0, one(-1), api.OK}, {2, one(-1), api.OK}},
		// the balance through the period alone
		{{0, one(most), api.OK}, {2, one(-1), api.OK}, {1, one(1), api.ErrOver}, {1, one(0), api.OK}, {2, one(1), api.OK}, {2, one(1), api.ErrOver}},
		{{0, one(least), api.OK}, {2, one(1), api.OK}, {1, one(-1), api.ErrOver}, {1, one(0), api.OK}, {2, one(-1), api.OK}, {2, one(-1), api.ErrOver}},
		// the balance through a later period alone: the last one, and one between
		{{3, one(most), api.OK}, {0, one(1), api.ErrOver}, {1, one(1), api.ErrOver}, {2, one(1), api.ErrOver}, {0, one(-1), api.OK}, {0, one(1), api.OK}},
		{{3, one(least), api.OK}, {0, one(-1), api.ErrOver}, {1, one(-1), api.ErrOver}, {2, one(-1), api.ErrOver}, {0, one(1), api.OK}, {0, one(-1), api.OK}},
		{{1, one(most), api.OK}, {2, one(-5), api.OK}, {0, one(1), api.ErrOver}, {1, one(1), api.ErrOver}, {2, one(5), api.OK}, {3, one(1), api.ErrOver}, {3, one(-1), api.OK}},
		{{1, one(least), api.OK}, {2, one(5), api.OK}, {0, one(-1), api.ErrOver}, {1, one(-1), api.ErrOver}, {2, one(-5), api.OK}, {3, one(-1), api.ErrOver}, {3, one(1), api.OK}},
		// amounts on the way leave 64 bits, together they don't
		{{1, one(most, most, -most, -most), api.OK}, {1, one(least, least, most, most, 2), api.OK}, {1, one(most, 1), api.ErrOver}, {1, one(least, -1), api.ErrOver}},
		// together they leave 64 bits, but not with what was there
		{{0, one(least), api.OK}, {0, one(most, 1), api.OK}, {0, one(least), api.OK}, {0, one(most, most, 1), api.OK}},
		{{0, one(most), api.OK}, {0, one(least, -most), api.OK}, {0, one(-1), api.ErrOver}, {0, one(most, most, 1), api.OK}},
		{{0, one(most), api.OK}, {0, one(least, least), api.ErrOver}, {0, one(least, -most, -1), api.ErrOver}},
		{{0, one(least), api.OK}, {0, one(most, most, 2), api.ErrOver}, {0, one(most, most, 1), api.OK}, {0, one(1), api.ErrOver}},
		// together they leave 64 bits, which the balance holds and the movement doesn't
		{{0, one(least), api.OK}, {1, one(most, 1), api.ErrOver}, {1, one(most), api.OK}, {0, one(1), api.OK}},
	} {
		p := newPair(t, 4)
		for j, s := range steps {
			if errno := p.post(s.period, s.postings()...); errno != s.want {
				t.Fatalf("row %d, step %d: error %d, not %d", i, j, errno, s.want)
			}
			p.same()
		}
	}
}

// P9.2: the same bounds, where periods are closed behind what was posted.
func TestOverClosed(t *testing.T) {
	p := newPair(t, 3)
	p.must(api.OK, p.post(0, step{0, []int64{most}, api.OK}.postings()...))
	p.must(api.OK, p.close(0))
	p.must(api.ErrOver, p.post(1, both(0, 0, 1, 1)...))
	p.must(api.OK, p.post(1, both(0, 0, 1, -1)...))
	p.must(api.OK, p.close(1))
	p.must(api.ErrOver, p.post(2, both(0, 0, 1, 2)...))
	p.must(api.OK, p.post(2, both(0, 0, 1, 1)...))
	p.same()
}

// P9.2: ErrOver also where it is another account, or another contract, of the last posting.
func TestOverWhere(t *testing.T) {
	for at := range 4 {
		for _, contract := range []int{0, 1, 39} {
			p := newPair(t, 2)
			other := (at + 1) % 4
			p.must(api.OK, p.post(1, both(contract, at, other, most)...))
			l := append(both(17, 0, 1, 5), both(contract, at, (at+2)%4, 1)...)
			p.must(api.ErrOver, p.post(0, l...))
			p.same()
			p.must(api.OK, p.post(0, append(both(17, 0, 1, 5), both(contract+1-2*(contract/39), at, other, 1)...)...))
			p.same()
		}
	}
}

// P9.4: Moved, Balance and Total where there is no such account, contract or period, in a ledger with postings everywhere.
func TestNone(t *testing.T) {
	p := newPair(t, 3)
	for contract := range 40 {
		for at := range 3 {
			p.must(api.OK, p.post(at, both(contract, at, at+1, int64(contract+7))...))
		}
	}
	ends := func(last int) []int {
		return []int{math.MinInt, math.MinInt32, -1, last + 1, math.MaxInt32, math.MaxInt}
	}
	hold := func(at, contract, period int) {
		t.Helper()
		if m, b := p.l.Moved(at, contract, period), p.l.Balance(at, contract, period); m != 0 || b != 0 {
			t.Fatalf("of %d, %d, %d: %d, %d", at, contract, period, m, b)
		}
	}
	for _, no := range ends(3) {
		hold(no, 0, 0)
		if total, errno := p.l.Total(no, 0); total != 0 || errno != api.ErrArg {
			t.Fatalf("Total of account %d: %d, %d", no, total, errno)
		}
	}
	for _, no := range ends(39) {
		hold(0, no, 0)
	}
	for _, no := range ends(2) {
		hold(0, 0, no)
		if total, errno := p.l.Total(0, no); total != 0 || errno != api.ErrArg {
			t.Fatalf("Total through %d: %d, %d", no, total, errno)
		}
	}
	p.same()
	for contract := range 40 {
		for period := range 3 {
			for at := range 4 {
				p.sameMoved(at, contract, period)
			}
		}
	}
}

// P9.4: Total of 2^63 - 1 and of -2^63, of one further, and of much more.
func TestTotal(t *testing.T) {
	for i, c := range []struct {
		amounts []int64 // of contracts 0, 1, ..
		want    int64
		errno   api.Errno
	}{
		{nil, 0, api.OK},
		{[]int64{1, 2, -4}, -1, api.OK},
		{[]int64{most - 1, 1}, most, api.OK},
		{[]int64{most, 1}, 0, api.ErrOver},
		{[]int64{most, most}, 0, api.ErrOver},
		{[]int64{most, most, 2}, 0, api.ErrOver},
		{[]int64{least, 0}, least, api.OK},
		{[]int64{least, -1}, 0, api.ErrOver},
		{[]int64{least, least}, 0, api.ErrOver},
		{[]int64{least, least, most, most, 2}, 0, api.OK},
		{[]int64{most, most, least, least, 1}, -1, api.OK},
		{[]int64{most, 1, -1}, most, api.OK},
	} {
		p := newPair(t, 2)
		for contract, n := range c.amounts {
			l := step{0, []int64{n}, api.OK}.postings()
			for j := range l {
				l[j].Contract = 39 - contract*9
			}
			p.must(api.OK, p.post(0, l...))
		}
		for period := range 2 {
			if got, errno := p.l.Total(0, period); got != c.want || errno != c.errno {
				t.Fatalf("case %d through %d: %d, %d, not %d, %d", i, period, got, errno, c.want, c.errno)
			}
		}
		p.same()
	}
	p := newPair(t, 1)
	for contract := range 40 {
		p.must(api.OK, p.post(0, both(contract, account.Asset, account.Revenue, most)...))
	}
	for at, want := range []api.Errno{api.OK, api.OK, api.ErrOver, api.ErrOver} {
		if got, errno := p.l.Total(at, 0); got != 0 || errno != want {
			t.Fatalf("of 40 contracts: Total of %d: %d, %d", at, got, errno)
		}
	}
}

// P9.4: movements are a period's own, balances hold all ahead, in ledgers of the most periods.
func TestLong(t *testing.T) {
	p := newPair(t, 240)
	for period := 239; period >= 0; period-- {
		p.must(api.OK, p.post(period, both(39, 1, 2, int64(period*period+1))...))
	}
	balance := int64(0)
	for period := range 240 {
		moved := int64(period*period + 1)
		balance += moved
		if got := p.l.Moved(1, 39, period); got != moved {
			t.Fatalf("Moved in %d: %d, not %d", period, got, moved)
		}
		if got := p.l.Balance(1, 39, period); got != balance {
			t.Fatalf("Balance through %d: %d, not %d", period, got, balance)
		}
		if got, errno := p.l.Total(2, period); got != -balance || errno != api.OK {
			t.Fatalf("Total through %d: %d, %d", period, got, errno)
		}
	}
}
