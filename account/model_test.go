package account_test

import (
	"math"
	"math/big"
	"slices"
	"testing"

	"quitrent/account"
	"quitrent/api"
)

const (
	most  = math.MaxInt64
	least = math.MinInt64
)

// model is a ledger by the chapter's words: it keeps entries alone, and tells everything else from these, with numbers of any size.
type model struct {
	periods, open int
	entries       []told
}

// told is an entry of a model.
type told struct {
	period   int
	postings []api.Posting
	turned   bool
}

// moved tells the movement of an account, a contract and a period.
func (m *model) moved(at, contract, period int) *big.Int {
	sum := new(big.Int)
	for _, e := range m.entries {
		for _, p := range e.postings {
			if e.period == period && p.Account == at && p.Contract == contract {
				sum.Add(sum, big.NewInt(p.Amount))
			}
		}
	}
	return sum
}

// balance tells the balance of an account and a contract through a period.
func (m *model) balance(at, contract, period int) *big.Int {
	sum := new(big.Int)
	for _, e := range m.entries {
		for _, p := range e.postings {
			if e.period <= period && p.Account == at && p.Contract == contract {
				sum.Add(sum, big.NewInt(p.Amount))
			}
		}
	}
	return sum
}

// total tells the balances of all contracts through a period.
func (m *model) total(at, period int) *big.Int {
	sum := new(big.Int)
	for contract := range api.MostContracts {
		sum.Add(sum, m.balance(at, contract, period))
	}
	return sum
}

// has tells whether there is an account, a contract and a period.
func (m *model) has(at, contract, period int) bool {
	return at >= 0 && at <= 3 && contract >= 0 && contract < api.MostContracts && period >= 0 && period < m.periods
}

// even tells whether the postings of each contract are 0 together.
func even(l []api.Posting) bool {
	for contract := range api.MostContracts {
		sum := new(big.Int)
		for _, p := range l {
			if p.Contract == contract {
				sum.Add(sum, big.NewInt(p.Amount))
			}
		}
		if sum.Sign() != 0 {
			return false
		}
	}
	return true
}

// fits tells whether all movements and balances of a list's accounts and contracts are amounts.
func (m *model) fits(l []api.Posting) bool {
	for _, p := range l {
		for period := range m.periods {
			if !m.moved(p.Account, p.Contract, period).IsInt64() || !m.balance(p.Account, p.Contract, period).IsInt64() {
				return false
			}
		}
	}
	return true
}

func (m *model) post(period int, l []api.Posting) (int, api.Errno) {
	if period < 0 || period >= m.periods || len(l) == 0 || len(l) > 32 {
		return 0, api.ErrArg
	}
	for _, p := range l {
		if !m.has(p.Account, p.Contract, period) {
			return 0, api.ErrArg
		}
	}
	if period < m.open {
		return 0, api.ErrClosed
	}
	if !even(l) {
		return 0, api.ErrEven
	}
	if len(m.entries) >= 5000 {
		return 0, api.ErrFull
	}
	m.entries = append(m.entries, told{period: period, postings: slices.Clone(l)})
	if !m.fits(l) {
		m.entries = m.entries[:len(m.entries)-1]
		return 0, api.ErrOver
	}
	return len(m.entries) - 1, api.OK
}

func (m *model) reverse(entry, period int) (int, api.Errno) {
	if entry < 0 || entry >= len(m.entries) {
		return 0, api.ErrName
	}
	if m.entries[entry].turned {
		return 0, api.ErrTwice
	}
	l := slices.Clone(m.entries[entry].postings)
	for i := range l {
		if l[i].Amount == least {
			return 0, api.ErrOver
		}
		l[i].Amount = -l[i].Amount
	}
	n, errno := m.post(period, l)
	if errno == api.OK {
		m.entries[entry].turned, m.entries[n].turned = true, true
	}
	return n, errno
}

func (m *model) close(period int) api.Errno {
	if m.open == m.periods || period != m.open {
		return api.ErrArg
	}
	m.open++
	return api.OK
}

// pair is a ledger with its model: each call is done to both, and what both answer is held to be the same.
type pair struct {
	t *testing.T
	l *account.Ledger
	m *model
}

func newPair(t *testing.T, periods int) *pair {
	t.Helper()
	l, errno := account.New(periods)
	if l == nil || errno != api.OK {
		t.Fatalf("New of %d: %d", periods, errno)
	}
	return &pair{t, l, &model{periods: periods}}
}

// post posts, and tells the error, or OK.
func (p *pair) post(period int, l ...api.Posting) api.Errno {
	p.t.Helper()
	kept := slices.Clone(l)
	got, errno := p.l.Post(period, l)
	want, wantErrno := p.m.post(period, kept)
	if got != want || errno != wantErrno {
		p.t.Fatalf("Post in %d of %v: %d, %d, not %d, %d", period, kept, got, errno, want, wantErrno)
	}
	if !slices.Equal(l, kept) {
		p.t.Fatalf("Post changed its list %v: %v", kept, l)
	}
	return errno
}

// reverse reverses, and tells the error, or OK.
func (p *pair) reverse(entry, period int) api.Errno {
	p.t.Helper()
	got, errno := p.l.Reverse(entry, period)
	want, wantErrno := p.m.reverse(entry, period)
	if got != want || errno != wantErrno {
		p.t.Fatalf("Reverse of %d in %d: %d, %d, not %d, %d", entry, period, got, errno, want, wantErrno)
	}
	return errno
}

// close closes, and tells the error, or OK.
func (p *pair) close(period int) api.Errno {
	p.t.Helper()
	errno := p.l.Close(period)
	if want := p.m.close(period); errno != want {
		p.t.Fatalf("Close of %d: %d, not %d", period, errno, want)
	}
	return errno
}

// must holds that a call's error is that.
func (p *pair) must(want, errno api.Errno) {
	p.t.Helper()
	if errno != want {
		p.t.Fatalf("error %d, not %d", errno, want)
	}
}

// same holds all that is told.
func (p *pair) same() {
	p.t.Helper()
	if p.l.Open() != p.m.open || p.l.Many() != len(p.m.entries) {
		p.t.Fatalf("Open, Many: %d, %d, not %d, %d", p.l.Open(), p.l.Many(), p.m.open, len(p.m.entries))
	}
	p.sameEntries()
	for period := -1; period <= p.m.periods; period++ {
		for at := -1; at <= 4; at++ {
			p.sameTotal(at, period)
			for _, contract := range []int{-1, 0, 1, 39, 40} {
				p.sameMoved(at, contract, period)
			}
		}
	}
}

// sameEntries holds each entry, and that there are none beside.
func (p *pair) sameEntries() {
	p.t.Helper()
	for i, want := range p.m.entries {
		period, l, errno := p.l.Entry(i)
		if period != want.period || !slices.Equal(l, want.postings) || errno != api.OK {
			p.t.Fatalf("Entry of %d: %d, %v, %d, not %d, %v", i, period, l, errno, want.period, want.postings)
		}
	}
	for _, i := range []int{math.MinInt, -1, len(p.m.entries), math.MaxInt} {
		if period, l, errno := p.l.Entry(i); period != 0 || l != nil || errno != api.ErrName {
			p.t.Fatalf("Entry of %d: %d, %v, %d", i, period, l, errno)
		}
	}
}

// sameMoved holds a movement and a balance.
func (p *pair) sameMoved(at, contract, period int) {
	p.t.Helper()
	moved, balance := new(big.Int), new(big.Int)
	if p.m.has(at, contract, period) {
		moved, balance = p.m.moved(at, contract, period), p.m.balance(at, contract, period)
	}
	if got := p.l.Moved(at, contract, period); got != moved.Int64() || !moved.IsInt64() {
		p.t.Fatalf("Moved of %d, %d, %d: %d, not %d", at, contract, period, got, moved)
	}
	if got := p.l.Balance(at, contract, period); got != balance.Int64() || !balance.IsInt64() {
		p.t.Fatalf("Balance of %d, %d, %d: %d, not %d", at, contract, period, got, balance)
	}
}

// sameTotal holds a total.
func (p *pair) sameTotal(at, period int) {
	p.t.Helper()
	want, wantErrno := int64(0), api.ErrArg
	if p.m.has(at, 0, period) {
		wantErrno = api.ErrOver
		if total := p.m.total(at, period); total.IsInt64() {
			want, wantErrno = total.Int64(), api.OK
		}
	}
	if got, errno := p.l.Total(at, period); got != want || errno != wantErrno {
		p.t.Fatalf("Total of %d, %d: %d, %d, not %d, %d", at, period, got, errno, want, wantErrno)
	}
}

// random tells numbers from 0 on, below one, the same ones each time.
func random() func(below int) int {
	state := uint64(88172645463325252)
	return func(below int) int {
		state ^= state << 13
		state ^= state >> 7
		state ^= state << 17
		return int((state >> 11) % uint64(below))
	}
}
