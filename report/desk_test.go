package report_test

import (
	"encoding/binary"
	"math"
	"math/big"
	"slices"
	"testing"

	"quitrent/api"
	"quitrent/codec"
	"quitrent/contract"
	"quitrent/engine"
	"quitrent/fiscal"
	"quitrent/report"
)

// The chapters' numbers, by themselves.
const (
	most          = math.MaxInt64
	least         = math.MinInt64
	mostContracts = 40
	mostPeriods   = 240
	mostEntries   = 5000
	whole         = 10000
)

// The Kinds of commands, by themselves.
const (
	sign    = 1
	bill    = 2
	tell    = 3
	onward  = 4
	afresh  = 5
	price   = 6
	closing = 7
)

// The test's items: one of each way of recognizing, each worth 60 alone.
const (
	byDay   = 0
	atOnce  = 1
	percent = 2
	units   = 3
)

// weeks is an engine of so many periods of weeks: the first ones end with days 28, 56, 91, 119, 147 and 182.
func weeks(periods int) engine.Config {
	return engine.Config{Calendar: fiscal.Calendar{Kind: fiscal.Weeks, First: 1}, Periods: periods, Items: wares(), Bound: 5000}
}

// months is an engine of so many periods of months: the first ones, of year 1, end with days 31, 59, 90 and 120.
func months(periods int) engine.Config {
	c := weeks(periods)
	c.Calendar.Kind = fiscal.Months
	return c
}

// wares are the test's items.
func wares() []api.Item {
	return []api.Item{{Price: 60}, {Method: api.Point, Price: 60}, {Method: api.Milestone, Price: 60}, {Method: api.Usage, Price: 60}}
}

// state is what was billed and recognized of a contract.
type state struct{ billed, recognized int64 }

// balances tells what the four accounts' balances are in a state.
func (s state) balances() [4]int64 {
	return [4]int64{s.billed, min(0, s.recognized-s.billed), max(0, s.recognized-s.billed), -s.recognized}
}

// desk is an engine, what is known of it, and what was told of its closed periods.
type desk struct {
	t      *testing.T
	e      *engine.Engine
	c      engine.Config
	now    [mostContracts]state
	closed [][mostContracts]state // by periods, as they were closed
	told   []string               // likewise, their bytes
}

func newDesk(t *testing.T, c engine.Config) *desk {
	t.Helper()
	e, errno := engine.New(c)
	if errno != api.OK {
		t.Fatalf("New of %v: %d", c, errno)
	}
	return &desk{t: t, e: e, c: c}
}

// row is a line of a sign: an item, a unit, a charge, and days.
func row(item, charge, first, last int64) []int64 { return []int64{item, 1, charge, first, last} }

// do does a command, and keeps what is known by it.
func (d *desk) do(kind int, args ...int64) engine.Reply {
	d.t.Helper()
	open, earned := d.e.Ledger().Open(), d.earned()
	r := d.e.Do(codec.Command{Kind: kind, Args: args})
	if r.E != api.OK {
		return r
	}
	switch kind {
	case bill:
		d.now[args[0]].billed += args[2]
	case closing:
		for number := range d.now {
			d.now[number].recognized = earned[number]
		}
		d.closed = append(d.closed, d.now)
		d.told = append(d.told, d.bytes(open))
	}
	return r
}

// earned tells what is earned of each contract through the open period's last day.
func (d *desk) earned() [mostContracts]int64 {
	var l [mostContracts]int64
	for number := range l {
		if c, _, _, ok := d.e.Contract(number); ok && d.e.Ledger().Open() < d.c.Periods {
			l[number] = all(c, d.last(d.e.Ledger().Open())).Int64()
		}
	}
	return l
}

// all tells what is earned of a contract's obligations through a day, together.
func all(c *contract.Contract, day int) *big.Int {
	sum := new(big.Int)
	for i := range c.Many() {
		sum.Add(sum, big.NewInt(c.Earned(i, day)))
	}
	return sum
}

// last tells a period's last day.
func (d *desk) last(period int) int {
	last, errno := fiscal.Last(d.c.Calendar, period)
	if errno != api.OK {
		d.t.Fatalf("no period %d: %d", period, errno)
	}
	return last
}

// must does a command that isn't refused.
func (d *desk) must(kind int, args ...int64) {
	d.t.Helper()
	if r := d.do(kind, args...); r.E != api.OK {
		d.t.Fatalf("%d of %v: %d", kind, args, r.E)
	}
}

// sign signs a contract at day 1 of which nothing may come.
func (d *desk) sign(number int64, lines ...[]int64) {
	d.t.Helper()
	d.must(sign, append([]int64{number, 1, 0, int64(len(lines))}, slices.Concat(lines...)...)...)
}

// close closes the open period, and so many behind it.
func (d *desk) close(many int) {
	d.t.Helper()
	for range many {
		d.must(closing, int64(d.e.Ledger().Open()))
	}
}

// falls holds a waterfall, told by its last number: what is beyond; and what remains.
func (d *desk) falls(number int, want ...int64) {
	d.t.Helper()
	remains := int64(0)
	for _, n := range want {
		remains += n
	}
	want, beyond := want[:len(want)-1], want[len(want)-1]
	if got, rest, errno := report.Waterfall(d.e, number); !slices.Equal(got, want) || rest != beyond || errno != api.OK {
		d.t.Fatalf("Waterfall of %d: %v, %d, %d, not %v, %d", number, got, rest, errno, want, beyond)
	}
	if got, errno := report.Remaining(d.e, number); got != remains || errno != api.OK {
		d.t.Fatalf("Remaining of %d: %d, %d, not %d", number, got, errno, remains)
	}
}

// tells holds the rows of a period, told by a number and eight Args each, and the bytes of these.
func (d *desk) tells(period int, want ...[]int64) {
	d.t.Helper()
	got, errno := report.Rows(d.e, period)
	if len(got) != len(want) || errno != api.OK {
		d.t.Fatalf("Rows of %d: %v, %d, not %v", period, got, errno, want)
	}
	for i, x := range want {
		if got[i].Kind != int(x[0]) || !slices.Equal(got[i].Args, x[1:]) {
			d.t.Fatalf("row %d of %d: %v, not %v", i, period, got[i], x)
		}
	}
	if got := d.bytes(period); got != laid(want) {
		d.t.Fatalf("Bytes of %d: %q, not %q", period, got, laid(want))
	}
}

// bytes tells a period's bytes.
func (d *desk) bytes(period int) string {
	d.t.Helper()
	s, errno := report.Bytes(d.e, period)
	if errno != api.OK {
		d.t.Fatalf("Bytes of %d: %d", period, errno)
	}
	return s
}

// laid tells the bytes of rows, by chapter 8's words.
func laid(rows [][]int64) string {
	list := binary.AppendVarint(nil, int64(len(rows)))
	for _, x := range rows {
		text := []byte{byte(x[0]), byte(len(x) - 1)}
		for _, n := range x[1:] {
			text = binary.AppendVarint(text, n)
		}
		list = append(binary.AppendVarint(list, int64(len(text))), text...)
	}
	return string(list)
}

// same holds all that is told against what is known.
func (d *desk) same() {
	d.t.Helper()
	for number := range mostContracts {
		d.sameFalls(number)
	}
	for period := range d.c.Periods {
		d.tells(period, d.rows(period)...)
	}
	for period, s := range d.told {
		if got := d.bytes(period); got != s {
			d.t.Fatalf("Bytes of %d, which is closed: %q, not %q", period, got, s)
		}
	}
}

// sameFalls holds what is told of a contract, or that there is none.
func (d *desk) sameFalls(number int) {
	d.t.Helper()
	c, _, _, ok := d.e.Contract(number)
	if !ok {
		d.mustBeNone(number)
		return
	}
	var want []int64
	through := d.now[number].recognized
	for period := len(d.closed); period < d.c.Periods; period++ {
		earned := all(c, d.last(period)).Int64()
		want = append(want, earned-through)
		through = earned
	}
	d.falls(number, append(want, c.Price()-through)...)
}

// mustBeNone holds that there is no contract of a number.
func (d *desk) mustBeNone(number int) {
	d.t.Helper()
	if got, rest, errno := report.Waterfall(d.e, number); got != nil || rest != 0 || errno != api.ErrName {
		d.t.Fatalf("Waterfall of %d: %v, %d, %d", number, got, rest, errno)
	}
	if got, errno := report.Remaining(d.e, number); got != 0 || errno != api.ErrName {
		d.t.Fatalf("Remaining of %d: %d, %d", number, got, errno)
	}
}

// rows tells the rows of a period.
func (d *desk) rows(period int) [][]int64 {
	var l [][]int64
	for number := range d.now {
		ahead, through := d.through(period-1, number), d.through(period, number)
		if ahead == (state{}) && through == (state{}) {
			continue
		}
		x, from, to := []int64{int64(number)}, ahead.balances(), through.balances()
		for i := range from {
			x = append(x, from[i], to[i]-from[i])
		}
		l = append(l, x)
	}
	return l
}

// through tells the state of a contract through a period, none ahead of the first one.
func (d *desk) through(period, number int) state {
	switch {
	case period < 0:
		return state{}
	case period < len(d.closed):
		return d.closed[period][number]
	}
	return d.now[number]
}

// far are numbers that nothing has, or nearly.
func far() []int {
	return []int{math.MinInt, math.MinInt + 1, math.MinInt32 - 1, math.MinInt32, -241, -41, -40, -2, -1, 40, 41, 255, 256, math.MaxInt32, math.MaxInt32 + 1, 1 << 32, math.MaxInt - 1, math.MaxInt}
}

// random tells numbers from 0 on, below one, the same ones each time.
func random() func(below int) int {
	state := uint64(88172645463325252)
	return func(below int) int {
		state ^= state << 13
		state ^= state >> 7
		state ^= state << 17
		return int((state >> 11) % uint64(below))
	}
}
