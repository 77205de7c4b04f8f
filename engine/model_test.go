package engine_test

import (
	"math"
	"math/big"
	"time"

	"quitrent/api"
	"quitrent/engine"
	"quitrent/fiscal"
)

// The chapters' numbers, by themselves.
const (
	most          = math.MaxInt64
	least         = math.MinInt64
	mostDay       = 1000000
	mostContracts = 40
	mostItems     = 40
	mostPeriods   = 240
	mostEntries   = 5000
	mostChanges   = 40
	mostLines     = 12
	mostRows      = 32
	mostTold      = 200
	mostPrices    = 100
	whole         = 10000
)

// The Kinds of commands, by themselves.
const (
	sign    = 1
	bill    = 2
	tell    = 3
	onward  = 4
	afresh  = 5
	price   = 6
	closing = 7
	earned  = 8
	balance = 9
)

// The accounts, by themselves.
const (
	receivable = 0
	liability  = 1
	asset      = 2
	revenue    = 3
)

// place is where a movement stands.
type place struct{ account, contract, period int }

// entry is postings in a period.
type entry struct {
	period   int
	postings []api.Posting
}

// model is an engine by the chapters' words, with numbers of any size, which calls none of the layers.
type model struct {
	ends    [][2]int // the first and last days of all periods of its calendar
	periods int
	bound   int
	items   []api.Item
	prices  []map[int]int64 // by items, those that were set, by their days
	deals   map[int]*deal
	open    int
	entries []entry
	moved   map[place]*big.Int
	closed  []map[int]int64 // by periods that are closed, what was recognized of each contract then
}

// newModel makes the model of an engine whose Config may be.
func newModel(c engine.Config) *model {
	m := &model{ends: wantEnds(c.Calendar), periods: c.Periods, bound: c.Bound, deals: map[int]*deal{}, moved: map[place]*big.Int{}}
	for _, x := range c.Items {
		m.items = append(m.items, x)
		m.prices = append(m.prices, map[int]int64{})
	}
	return m
}

// wantEnds tells the first and last days of all periods of a calendar that may be.
func wantEnds(c fiscal.Calendar) [][2]int {
	var l [][2]int
	if c.Kind == fiscal.Months {
		begin := time.Date(1, 1, 1, 0, 0, 0, 0, time.UTC)
		from := begin.AddDate(0, 0, c.First-1)
		for p := range mostPeriods {
			first, next := from.AddDate(0, p, 0), from.AddDate(0, p+1, 0)
			l = append(l, [2]int{dayOf(begin, first), dayOf(begin, next) - 1})
		}
		return l
	}
	first := c.First
	for p := range mostPeriods {
		days := []int{28, 28, 35}[p%3]
		if year := p / 12; p%12 == 11 && 71*(year+1)/400 > 71*year/400 {
			days = 42
		}
		l = append(l, [2]int{first, first + days - 1})
		first += days
	}
	return l
}

// dayOf tells a day's number; a Duration is too short for all of them.
func dayOf(begin, day time.Time) int { return int((day.Unix()-begin.Unix())/86400) + 1 }

// reply is an error, and values.
type reply struct {
	errno  api.Errno
	values []int64
}

func refused(errno api.Errno) reply { return reply{errno: errno} }

func told(values ...int64) reply { return reply{values: values} }

// small tells what a number that is no amount counts as.
func small(n int64) int {
	if n < -1<<31 || n > 1<<31-1 {
		return -1 << 31
	}
	return int(n)
}

// formed tells whether a command has as many Args as it must have.
func formed(kind int, args []int64) bool {
	switch kind {
	case bill, onward, afresh, price, earned, balance:
		return len(args) == 3
	case tell:
		return len(args) == 4
	case closing:
		return len(args) == 1
	case sign:
		if len(args) < 4 || args[2] < 0 || args[2] > mostRows {
			return false
		}
		k := 3 + 2*int(args[2])
		if len(args) <= k || args[k] < 0 || args[k] > mostRows {
			return false
		}
		return len(args) == k+1+5*int(args[k])
	}
	return false
}

// do does a command.
func (m *model) do(kind int, args []int64) reply {
	if !formed(kind, args) {
		return refused(api.ErrForm)
	}
	a := func(at int) int { return small(args[at]) }
	switch kind {
	case sign:
		return m.sign(args)
	case price:
		return refused(m.set(a(0), a(1), args[2]))
	case closing:
		return m.end(a(0))
	case balance:
		return m.balance(a(0), a(1), a(2))
	}
	d := m.deals[a(0)]
	if d == nil {
		return refused(api.ErrName)
	}
	switch kind {
	case bill:
		return m.bill(a(0), d, a(1), args[2])
	case onward:
		return refused(d.onward(a(1), args[2]))
	case afresh:
		return refused(d.afresh(a(1), args[2]))
	}
	if a(1) < 0 || a(1) >= len(d.owed) {
		return refused(api.ErrName)
	}
	if kind == tell {
		return refused(d.owed[a(1)].tell(a(2), args[3]))
	}
	return told(d.owed[a(1)].earned(a(2)))
}

func (m *model) sign(args []int64) reply {
	number := small(args[0])
	if number < 0 || number >= mostContracts {
		return refused(api.ErrName)
	}
	if m.deals[number] != nil {
		return refused(api.ErrTwice)
	}
	var come []may
	for at := 3; len(come) < int(args[2]); at += 2 {
		come = append(come, may{args[at], small(args[at+1])})
	}
	var lines []api.Line
	for l := args[4+2*len(come):]; len(l) > 0; l = l[5:] {
		lines = append(lines, api.Line{Item: small(l[0]), Units: l[1], Charge: l[2], First: small(l[3]), Last: small(l[4])})
	}
	d, errno := m.newDeal(small(args[1]), come, lines)
	if errno != api.OK {
		return refused(errno)
	}
	m.deals[number] = d
	return told(d.price, int64(len(d.owed)))
}

// set sets a price.
func (m *model) set(item, day int, n int64) api.Errno {
	if item < 0 || item >= len(m.items) {
		return api.ErrName
	}
	if day < 1 || day > mostDay || n < 1 {
		return api.ErrArg
	}
	if m.prices[item][day] != 0 {
		return api.ErrTwice
	}
	if len(m.prices[item]) >= mostPrices {
		return api.ErrFull
	}
	m.prices[item][day] = n
	return api.OK
}

// price tells an item's price at a day.
func (m *model) price(item, day int) int64 {
	n, since := m.items[item].Price, 0
	for from, set := range m.prices[item] {
		if from <= day && from > since {
			n, since = set, from
		}
	}
	return n
}

// period tells a day's period, or that it is in none of the engine's.
func (m *model) period(day int) (int, bool) {
	for p, ends := range m.ends[:m.periods] {
		if day >= ends[0] && day <= ends[1] {
			return p, true
		}
	}
	return 0, false
}

func (m *model) bill(number int, d *deal, day int, amount int64) reply {
	period, ok := m.period(day)
	switch {
	case amount < 1, !ok:
		return refused(api.ErrArg)
	case period < m.open:
		return refused(api.ErrClosed)
	case period > m.open:
		return refused(api.ErrOrder)
	case !exact(d.billed, amount).IsInt64():
		return refused(api.ErrOver)
	case len(m.entries) >= mostEntries:
		return refused(api.ErrFull)
	}
	m.change(number, d, d.billed+amount, d.recognized)
	owed, due := sides(d.billed, d.recognized)
	return told(owed, due)
}

// sides tells liability and asset.
func sides(billed, recognized int64) (int64, int64) {
	return max(billed-recognized, 0), max(recognized-billed, 0)
}

// change posts what was billed and recognized more, in the open period.
func (m *model) change(number int, d *deal, billed, recognized int64) {
	owed, due := sides(d.billed, d.recognized)
	owed2, due2 := sides(billed, recognized)
	x := entry{period: m.open}
	for at, amount := range []int64{
		receivable: billed - d.billed,
		liability:  owed - owed2,
		asset:      due2 - due,
		revenue:    d.recognized - recognized,
	} {
		if amount == 0 {
			continue
		}
		x.postings = append(x.postings, api.Posting{Account: at, Contract: number, Amount: amount})
		m.move(place{at, number, m.open}, amount)
	}
	m.entries = append(m.entries, x)
	d.billed, d.recognized = billed, recognized
}

func (m *model) move(at place, amount int64) {
	if m.moved[at] == nil {
		m.moved[at] = new(big.Int)
	}
	m.moved[at].Add(m.moved[at], exact(amount))
}

func (m *model) end(period int) reply {
	if period != m.open || period >= m.periods {
		return refused(api.ErrArg)
	}
	last := m.ends[period][1]
	many := 0
	for _, d := range m.deals {
		if d.all(last) != d.recognized {
			many++
		}
	}
	if mostEntries-len(m.entries) < many {
		return refused(api.ErrFull)
	}
	stands := map[int]int64{}
	for number := range mostContracts {
		d := m.deals[number]
		if d == nil {
			continue
		}
		if all := d.all(last); all != d.recognized {
			m.change(number, d, d.billed, all)
		}
		stands[number] = d.recognized
	}
	m.closed = append(m.closed, stands)
	m.open++
	return told(int64(many))
}

func (m *model) balance(account, number, period int) reply {
	switch {
	case m.deals[number] == nil:
		return refused(api.ErrName)
	case account < receivable, account > revenue, period < 0, period >= m.periods:
		return refused(api.ErrArg)
	}
	return told(m.balanceOf(account, number, period))
}

// balanceOf tells a balance, which is an amount.
func (m *model) balanceOf(account, number, period int) int64 {
	sum := new(big.Int)
	for p := range period + 1 {
		if moved := m.moved[place{account, number, p}]; moved != nil {
			sum.Add(sum, moved)
		}
	}
	return sum.Int64()
}
