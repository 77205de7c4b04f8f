package engine_test

import (
	"fmt"
	"math"
	"slices"
	"testing"

	"quitrent/api"
	"quitrent/codec"
	"quitrent/contract"
	"quitrent/engine"
	"quitrent/fiscal"
)

// The test's items: one of each way of recognizing, each worth 60 alone, and others.
const (
	byDay   = 0
	atOnce  = 1
	percent = 2
	units   = 3
	bundled = 4 // two that belong together, by days and by units
	along   = 5
	serial  = 6
	little  = 7
	huge    = 8 // worth 2^62 alone
)

// wares are the test's items.
func wares() []api.Item {
	return []api.Item{
		{Tag: distinct, Method: ratable, Price: 60},
		{Tag: distinct, Method: point, Price: 60},
		{Tag: distinct, Method: milestone, Price: 60},
		{Tag: distinct, Method: usage, Price: 60},
		{Tag: bundle, Group: 1, Method: ratable, Price: 20},
		{Tag: bundle, Group: 1, Method: usage, Price: 40},
		{Tag: series, Method: usage, Price: 15},
		{Tag: distinct, Method: usage, Price: 1},
		{Tag: distinct, Method: usage, Price: 1 << 62},
	}
}

// four is an engine of four periods of weeks, which end with days 28, 56, 91 and 119.
func four() engine.Config {
	return engine.Config{Calendar: fiscal.Calendar{Kind: fiscal.Weeks, First: 1}, Periods: 4, Items: wares(), Bound: 5000}
}

// row is a line of a sign: an item, a unit, a charge, and days.
func row(item, charge, first, last int64) []int64 { return []int64{item, 1, charge, first, last} }

// of are the Args of a sign: a number, a day, what may come, by pairs, and lines.
func of(number, day int64, come [][2]int64, lines ...[]int64) []int64 {
	args := []int64{number, day, int64(len(come))}
	for _, x := range come {
		args = append(args, x[0], x[1])
	}
	args = append(args, int64(len(lines)))
	return append(args, slices.Concat(lines...)...)
}

// pair is an engine and its model: each command is done to both, and the replies are held against each other.
type pair struct {
	t      *testing.T
	c      engine.Config
	e      *engine.Engine
	m      *model
	closed []string // what was told of each closed period, as it was closed
}

// newPair makes an engine of a Config that may be, and its model; the Config's Items are written over behind that.
func newPair(t *testing.T, c engine.Config) *pair {
	t.Helper()
	m := newModel(c)
	c.Items = slices.Clone(c.Items)
	e, errno := engine.New(c)
	if e == nil || errno != api.OK {
		t.Fatalf("New of %v: %v, %d", c, e, errno)
	}
	for i := range c.Items {
		c.Items[i] = api.Item{Tag: series, Group: 99, Method: point, Price: 7}
	}
	return &pair{t: t, c: c, e: e, m: m}
}

// do does a command to both; what went in and what came out is written over behind it.
func (p *pair) do(kind int, args ...int64) reply {
	p.t.Helper()
	handed := slices.Clone(args)
	got := p.e.Do(codec.Command{Kind: kind, Args: handed})
	want := p.m.do(kind, args)
	if got.E != want.errno || !slices.Equal(got.Values, want.values) {
		p.t.Fatalf("%d of %v: %d, %v, not %d, %v", kind, args, got.E, got.Values, want.errno, want.values)
	}
	if !slices.Equal(handed, args) {
		p.t.Fatalf("%d of %v: the Args became %v", kind, args, handed)
	}
	scribble(handed)
	scribble(got.Values)
	if kind == closing && want.errno == api.OK {
		p.closed = append(p.closed, p.period(p.m.open-1))
		p.mustBeFull()
	}
	return want
}

// mustBeFull holds, behind a close, that contracts that go by days, and are past all their ends and changes, are recognized in full.
func (p *pair) mustBeFull() {
	p.t.Helper()
	last := p.m.ends[p.m.open-1][1]
	for number, d := range p.m.deals {
		if d.daysLast == 0 || d.daysLast > last || d.day > last {
			continue
		}
		if c, _, recognized, _ := p.e.Contract(number); recognized != c.Price() {
			p.t.Fatalf("of %d, which goes by days to %d: %d recognized of %d", number, d.daysLast, recognized, c.Price())
		}
	}
}

func scribble(l []int64) {
	for i := range l[:cap(l)] {
		l[:cap(l)][i] = 1234567
	}
}

// must holds the Values of a command.
func (p *pair) must(want []int64, kind int, args ...int64) {
	p.t.Helper()
	if got := p.do(kind, args...); got.errno != api.OK || !slices.Equal(got.values, want) {
		p.t.Fatalf("%d of %v: %d, %v, not %v", kind, args, got.errno, got.values, want)
	}
}

// mustRefuse holds the error of a command, and that it changes nothing.
func (p *pair) mustRefuse(want api.Errno, kind int, args ...int64) {
	p.t.Helper()
	if got := p.do(kind, args...); got.errno != want || len(got.values) != 0 {
		p.t.Fatalf("%d of %v: %d, %v, not %d", kind, args, got.errno, got.values, want)
	}
	p.same()
}

// mustStand holds what was billed and recognized of a contract.
func (p *pair) mustStand(number int, billed, recognized int64) {
	p.t.Helper()
	_, b, r, ok := p.e.Contract(number)
	if !ok || b != billed || r != recognized {
		p.t.Fatalf("of %d: %d, %d, %t, not %d, %d", number, b, r, ok, billed, recognized)
	}
}

// period is what the ledger tells of a period.
func (p *pair) period(period int) string {
	var l []int64
	for account := receivable; account <= revenue; account++ {
		for number := range mostContracts {
			l = append(l, p.e.Ledger().Balance(account, number, period), p.e.Ledger().Moved(account, number, period))
		}
	}
	return fmt.Sprint(l)
}

// same holds all that an engine tells against the model.
func (p *pair) same() {
	p.t.Helper()
	if p.e.Calendar() != p.c.Calendar || p.e.Periods() != p.c.Periods {
		p.t.Fatalf("%v, %d, not %v, %d", p.e.Calendar(), p.e.Periods(), p.c.Calendar, p.c.Periods)
	}
	for number := -1; number <= mostContracts; number++ {
		p.sameContract(number)
	}
	p.sameLedger()
	for period, told := range p.closed {
		if p.period(period) != told {
			p.t.Fatalf("of period %d, which is closed: %s, not %s", period, p.period(period), told)
		}
	}
	p.mustFollow()
}

// sameContract holds what is told of a contract.
func (p *pair) sameContract(number int) {
	p.t.Helper()
	c, billed, recognized, ok := p.e.Contract(number)
	d := p.m.deals[number]
	if d == nil {
		if c != nil || billed != 0 || recognized != 0 || ok {
			p.t.Fatalf("of %d: %v, %d, %d, %t", number, c, billed, recognized, ok)
		}
		return
	}
	if c == nil || billed != d.billed || recognized != d.recognized || !ok {
		p.t.Fatalf("of %d: %v, %d, %d, %t, not %d, %d", number, c, billed, recognized, ok, d.billed, d.recognized)
	}
	if c.Price() != d.price || c.Day() != d.day || c.Many() != len(d.owed) {
		p.t.Fatalf("of %d: %d at %d, of %d, not %d at %d, of %d", number, c.Price(), c.Day(), c.Many(), d.price, d.day, len(d.owed))
	}
	for i, o := range d.owed {
		p.sameOwed(c, number, i, o)
	}
}

// sameOwed holds what is told of an obligation.
func (p *pair) sameOwed(c *contract.Contract, number, i int, o *owed) {
	p.t.Helper()
	if got := c.Allotted(i); got != o.allotted() {
		p.t.Fatalf("allotted to %d of %d: %d, not %d", i, number, got, o.allotted())
	}
	got, ok := c.Duty(i)
	if !ok || !slices.Equal(got.Lines, o.duty.Lines) || got.Alone != o.duty.Alone || got.Units != o.duty.Units ||
		got.Method != o.duty.Method || got.First != o.duty.First || got.Last != o.duty.Last {
		p.t.Fatalf("obligation %d of %d: %v, %t, not %v", i, number, got, ok, o.duty)
	}
	for _, ends := range p.m.ends[:p.c.Periods] {
		for _, day := range ends {
			if got := c.Earned(i, day); got != o.earned(day) {
				p.t.Fatalf("earned of %d of %d, through %d: %d, not %d", i, number, day, got, o.earned(day))
			}
		}
	}
}

// sameLedger holds the ledger's entries, balances and movements.
func (p *pair) sameLedger() {
	p.t.Helper()
	l := p.e.Ledger()
	if l.Open() != p.m.open || l.Many() != len(p.m.entries) {
		p.t.Fatalf("the ledger: %d, %d, not %d, %d", l.Open(), l.Many(), p.m.open, len(p.m.entries))
	}
	for at, x := range p.m.entries {
		if at < len(p.m.entries)-50 { // the others were held before
			continue
		}
		period, postings, errno := l.Entry(at)
		if period != x.period || !slices.Equal(postings, x.postings) || errno != api.OK {
			p.t.Fatalf("entry %d: %d, %v, %d, not %d, %v", at, period, postings, errno, x.period, x.postings)
		}
	}
	for number := range p.m.deals {
		for account := receivable; account <= revenue; account++ {
			for period := range p.c.Periods {
				if got := l.Balance(account, number, period); got != p.m.balanceOf(account, number, period) {
					p.t.Fatalf("account %d of %d, through %d: %d, not %d", account, number, period, got, p.m.balanceOf(account, number, period))
				}
			}
		}
	}
}

// mustFollow holds P18.3 of what an engine tells.
func (p *pair) mustFollow() {
	p.t.Helper()
	l, last := p.e.Ledger(), p.c.Periods-1
	for number := range mostContracts {
		c, billed, recognized, ok := p.e.Contract(number)
		is := [4]int64{}
		for account := range is {
			is[account] = l.Balance(account, number, last)
		}
		owed, due := -is[liability], is[asset]
		if owed < 0 || due < 0 || owed != 0 && due != 0 || owed-due != billed-recognized || is[receivable] != billed || -is[revenue] != recognized {
			p.t.Fatalf("of %d: %d billed, %d recognized, and balances of %v", number, billed, recognized, is)
		}
		if !ok {
			continue
		}
		d := p.m.deals[number]
		if c.Price() > d.dearest || recognized < 0 || recognized > d.dearest {
			p.t.Fatalf("of %d: %d recognized, of %d at most", number, recognized, d.dearest)
		}
		if p.m.open == 0 && recognized != 0 || p.m.open > 0 && recognized != p.m.closed[p.m.open-1][number] {
			p.t.Fatalf("of %d: %d recognized through period %d", number, recognized, p.m.open-1)
		}
	}
	for period := range p.c.Periods {
		p.mustBeEven(period)
	}
}

// mustBeEven holds that all totals through a period are together 0; they leave 64 bits where contracts are very dear.
func (p *pair) mustBeEven(period int) {
	p.t.Helper()
	sum := exact()
	for account := receivable; account <= revenue; account++ {
		total, errno := p.e.Ledger().Total(account, period)
		if errno != api.OK {
			return
		}
		sum.Add(sum, exact(total))
	}
	if sum.Sign() != 0 {
		p.t.Fatalf("all totals through %d are together %s", period, sum)
	}
}

// far are numbers that are too far from 0, or just not, but for what is an amount.
func far() []int64 {
	return []int64{
		least, least + 1, -1 << 33, -1<<32 - 1, -1 << 32, -1<<31 - 1, -1 << 31, -1<<31 + 1, -1, 0,
		1<<31 - 2, 1<<31 - 1, 1 << 31, 1<<31 + 1, 1 << 32, 1<<32 + 1, 1 << 33, most - 1, most,
	}
}

// farInts are far numbers, where an int is asked.
func farInts() []int {
	return []int{math.MinInt, math.MinInt32 - 1, math.MinInt32, -mostContracts, -1, mostContracts, mostContracts + 1, math.MaxInt32, math.MaxInt32 + 1, 1 << 32, 1<<32 + 1, math.MaxInt}
}

// random tells numbers from 0 on, below one, the same ones each time.
func random() func(below int) int {
	state := uint64(88172645463325252)
	return func(below int) int {
		state ^= state << 13
		state ^= state >> 7
		state ^= state << 17
		return int((state >> 11) % uint64(below))
	}
}

// size tells an amount of any size, from 0 on.
func size(next func(int) int) int64 {
	return []int64{0, 1, int64(next(10)), int64(next(300)), int64(next(1 << 40)), int64(next(1<<53)) << next(11), 1 << 62, most - int64(next(3)), most}[next(9)]
}

// signed tells an amount of any size, of either sign.
func signed(next func(int) int) int64 {
	if n := size(next); next(2) == 0 {
		return n
	} else {
		return -n - int64(next(2))
	}
}
