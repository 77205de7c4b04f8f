package report_test

import (
	"slices"
	"testing"

	"quitrent/api"
	"quitrent/codec"
	"quitrent/contract"
	"quitrent/engine"
	"quitrent/report"
)

// mustFollow holds P19.3 of what is told, by itself.
func (d *desk) mustFollow() {
	d.t.Helper()
	for number := range mostContracts {
		c, _, _, ok := d.e.Contract(number)
		if !ok {
			continue
		}
		falls, beyond, _ := report.Waterfall(d.e, number)
		remains, _ := report.Remaining(d.e, number)
		together := beyond
		for _, n := range falls {
			together += n
		}
		if together != remains {
			d.t.Fatalf("of %d: %v and %d, together %d, not %d", number, falls, beyond, together, remains)
		}
		if d.endsWithin(c) && len(falls) > 0 && beyond != 0 {
			d.t.Fatalf("of %d, which ends within the periods: %d is beyond", number, beyond)
		}
	}
	d.mustChain()
}

// endsWithin tells whether a contract goes by days, and ends and was changed within the periods.
func (d *desk) endsWithin(c *contract.Contract) bool {
	last := d.last(d.c.Periods - 1)
	for i := range c.Many() {
		if x, _ := c.Duty(i); x.Method != api.Ratable || x.Last > last {
			return false
		}
	}
	return c.Day() <= last
}

// mustChain holds that each row opens with what the one of the period ahead closes with; a contract without a row has 0.
func (d *desk) mustChain() {
	d.t.Helper()
	var closes [mostContracts][4]int64
	for period := range d.c.Periods {
		var opens [mostContracts][4]int64
		rows, _ := report.Rows(d.e, period)
		was := closes
		for i, x := range rows {
			if i > 0 && rows[i-1].Kind >= x.Kind {
				d.t.Fatalf("row %d of %d: %v behind %v", i, period, x, rows[i-1])
			}
			for at := range 4 {
				opens[x.Kind][at] = x.Args[2*at]
				closes[x.Kind][at] = x.Args[2*at] + x.Args[2*at+1]
			}
		}
		if was != opens {
			d.t.Fatalf("period %d opens with %v, not %v", period, opens, was)
		}
	}
}

// some are commands of two contracts that go together or don't.
func some() []codec.Command {
	return []codec.Command{
		{Kind: sign, Args: []int64{0, 1, 0, 2, byDay, 1, 100, 1, 56, percent, 1, 20, 1, 1}},
		{Kind: sign, Args: []int64{1, 1, 0, 1, byDay, 1, 70, 29, 100}},
		{Kind: bill, Args: []int64{0, 28, 60}},
		{Kind: bill, Args: []int64{0, 29, 60}},
		{Kind: tell, Args: []int64{0, 1, 20, 5000}},
		{Kind: onward, Args: []int64{0, 14, -33}},
		{Kind: afresh, Args: []int64{0, 10, -120}},
		{Kind: closing, Args: []int64{0}},
		{Kind: closing, Args: []int64{1}},
	}
}

// P19.1 to P19.3: behind every row of five of these commands.
func TestEveryRow(t *testing.T) {
	commands := some()
	for n := range 9 * 9 * 9 * 9 * 9 {
		d := newDesk(t, weeks(3))
		for left := n; left > 0; left /= 9 {
			c := commands[left%9]
			d.do(c.Kind, c.Args...)
		}
		for _, number := range []int{0, 1, 2} {
			d.sameFalls(number)
		}
		for period := range 3 {
			d.tells(period, d.rows(period)...)
		}
		for period, s := range d.told {
			if got := d.bytes(period); got != s {
				t.Fatalf("Bytes of %d, which is closed: %q, not %q", period, got, s)
			}
		}
	}
}

// chooser chooses commands of any kind of a desk's periods.
type chooser struct {
	d      *desk
	next   func(int) int
	number int64
}

// day tells a day of about the desk's periods.
func (x *chooser) day() int64 { return int64(x.next(x.d.last(x.d.c.Periods-1) + 40)) }

// amount tells an amount of any size.
func (x *chooser) amount() int64 {
	return []int64{0, 1, int64(x.next(10)), int64(x.next(300)), int64(x.next(1 << 40)), 1 << x.next(63), most - int64(x.next(2))}[x.next(7)]
}

// choose tells a command, which may be refused.
func (x *chooser) choose() codec.Command {
	x.number = int64(x.next(5) * 9)
	change := x.amount()
	if x.next(2) == 0 {
		change = -change
	}
	switch open := int64(x.d.e.Ledger().Open()); x.next(12) {
	case 0, 1, 2:
		return codec.Command{Kind: sign, Args: x.lines()}
	case 3, 4, 5:
		first, last := int64(0), int64(0)
		if open < int64(x.d.c.Periods) {
			last = int64(x.d.last(int(open)))
			first = last - 27
		}
		return codec.Command{Kind: bill, Args: []int64{x.number, first + int64(x.next(int(last-first)+2)), x.amount()}}
	case 6, 7:
		return codec.Command{Kind: tell, Args: []int64{x.number, int64(x.next(4)), x.day(), []int64{1, 3, 5000, whole, 7}[x.next(5)]}}
	case 8:
		return codec.Command{Kind: onward, Args: []int64{x.number, x.day(), change}}
	case 9:
		return codec.Command{Kind: afresh, Args: []int64{x.number, x.day(), change}}
	case 10:
		return codec.Command{Kind: price, Args: []int64{int64(x.next(4)), x.day(), 1 + x.amount()/2}}
	default:
		return codec.Command{Kind: closing, Args: []int64{open + int64(x.next(5)/4)}}
	}
}

// lines tells the Args of a sign.
func (x *chooser) lines() []int64 {
	l := []int64{x.number, x.day(), 0}
	many := 1 + x.next(4)
	l = append(l, int64(many))
	days := x.next(2) == 0
	for range many {
		item := int64(x.next(4))
		if days {
			item = byDay
		}
		first := x.day()
		l = append(l, item, int64(1+x.next(4)), x.amount(), first, first+int64(x.next(90)))
	}
	return l
}

// P19.1 to P19.3: behind every command of long mixed rows, of both calendars and of one period, few and some.
func TestMixed(t *testing.T) {
	next := random()
	for i := range 60 {
		c := weeks([]int{1, 2, 4, 7}[i%4])
		if i/4%2 == 1 {
			c = months(c.Periods)
		}
		d := newDesk(t, c)
		x := &chooser{d: d, next: next}
		for range 60 {
			command := x.choose()
			d.do(command.Kind, command.Args...)
			d.same()
			d.mustFollow()
		}
	}
}

// P19.3: what is told of closed periods, behind changes that are dated back and commands that are refused.
func TestClosedStays(t *testing.T) {
	d := newDesk(t, weeks(4))
	d.sign(0, row(byDay, 119, 1, 119), row(percent, 119, 1, 1))
	d.sign(39, row(byDay, 100, 1, 56))
	d.must(bill, 0, 28, 500)
	d.close(2)
	told := []string{d.bytes(0), d.bytes(1)}
	hold := func() {
		t.Helper()
		for period, s := range told {
			if got := d.bytes(period); got != s {
				t.Fatalf("Bytes of %d: %q, not %q", period, got, s)
			}
		}
		d.same()
		d.mustFollow()
	}
	for _, c := range []codec.Command{
		{Kind: tell, Args: []int64{0, 1, 5, 4000}}, {Kind: afresh, Args: []int64{0, 7, 80}}, {Kind: onward, Args: []int64{0, 20, -30}},
		{Kind: afresh, Args: []int64{39, 20, -100}}, {Kind: bill, Args: []int64{0, 57, 1000}}, {Kind: sign, Args: []int64{20, 1, 0, 1, atOnce, 1, 50, 3, 3}},
		{Kind: price, Args: []int64{0, 3, 900}}, {Kind: closing, Args: []int64{2}}, {Kind: afresh, Args: []int64{39, 20, 55}}, {Kind: closing, Args: []int64{3}}, {Kind: afresh, Args: []int64{20, 1, 5}},
	} {
		d.must(c.Kind, c.Args...)
		hold()
	}
	for _, c := range []codec.Command{
		{Kind: bill, Args: []int64{0, 28, 5}}, {Kind: bill, Args: []int64{0, 57, 5}}, {Kind: closing, Args: []int64{0}}, {Kind: closing, Args: []int64{4}}, {Kind: afresh, Args: []int64{0, 1, 5}},
		{Kind: sign, Args: []int64{0, 1, 0, 0}}, {Kind: 99}, {Kind: tell, Args: []int64{0, 1, 4, 5000}},
	} {
		if r := d.do(c.Kind, c.Args...); r.E == api.OK {
			t.Fatalf("%v wasn't refused", c)
		}
		hold()
	}
}

// P19.3: a ledger that is full is told of as any other, and a close that is refused changes nothing of it.
func TestFullLedger(t *testing.T) {
	d := newDesk(t, weeks(3))
	d.sign(0, row(byDay, 100, 1, 56))
	d.close(1)
	for range mostEntries - 1 {
		d.must(bill, 0, 29, 1)
	}
	d.tells(1, []int64{0, 0, mostEntries - 1, 0, 50 - (mostEntries - 1), 50, -50, -50, 0})
	if r := d.do(closing, 1); r.E != api.ErrFull {
		t.Fatalf("close with a full ledger: %d", r.E)
	}
	d.falls(0, 50, 0, 0)
	d.same()
	d.mustFollow()
}

// ask asks for all that there is to tell of an engine.
func ask(e *engine.Engine) {
	for number := -1; number <= mostContracts; number++ {
		report.Waterfall(e, number)
		report.Remaining(e, number)
	}
	for period := -1; period <= e.Periods(); period++ {
		report.Rows(e, period)
		report.Bytes(e, period)
	}
}

// R5: a report changes nothing: later replies, and the ledger, are as if none had been asked for.
func TestAskedOrNot(t *testing.T) {
	next := random()
	for i := range 30 {
		asked, not := newDesk(t, weeks(1+i%4)), newDesk(t, weeks(1+i%4))
		x := &chooser{d: asked, next: next}
		for range 60 {
			c := x.choose()
			got, want := asked.e.Do(c), not.e.Do(c)
			if got.E != want.E || !slices.Equal(got.Values, want.Values) {
				t.Fatalf("%v: %v, not %v", c, got, want)
			}
			ask(asked.e)
		}
		sameLedgers(t, asked.e, not.e)
		asked.sameTold(not)
	}
}

// sameLedgers holds that two engines' ledgers have the same entries.
func sameLedgers(t *testing.T, e, f *engine.Engine) {
	t.Helper()
	l, m := e.Ledger(), f.Ledger()
	if l.Many() != m.Many() || l.Open() != m.Open() {
		t.Fatalf("%d entries, %d, not %d, %d", l.Many(), l.Open(), m.Many(), m.Open())
	}
	for at := range l.Many() {
		period, p, _ := l.Entry(at)
		want, q, _ := m.Entry(at)
		if period != want || !slices.Equal(p, q) {
			t.Fatalf("entry %d: %d, %v, not %d, %v", at, period, p, want, q)
		}
	}
}

// sameTold holds that of two engines the same is told.
func (d *desk) sameTold(other *desk) {
	d.t.Helper()
	for number := range mostContracts {
		falls, beyond, errno := report.Waterfall(d.e, number)
		want, rest, refused := report.Waterfall(other.e, number)
		if !slices.Equal(falls, want) || beyond != rest || errno != refused {
			d.t.Fatalf("Waterfall of %d: %v, %d, %d, not %v, %d, %d", number, falls, beyond, errno, want, rest, refused)
		}
	}
	for period := range d.c.Periods {
		if got, want := d.bytes(period), other.bytes(period); got != want {
			d.t.Fatalf("Bytes of %d: %q, not %q", period, got, want)
		}
	}
}

// R4: the same calls answer the same, in an engine of its own and again; two engines beside each other share nothing.
func TestTwoEngines(t *testing.T) {
	next := random()
	for i := range 20 {
		one, two, alone := newDesk(t, weeks(4)), newDesk(t, months(1+i%4)), newDesk(t, weeks(4))
		x, y := &chooser{d: one, next: next}, &chooser{d: two, next: next}
		for range 50 {
			c, other := x.choose(), y.choose()
			one.do(c.Kind, c.Args...)
			two.do(other.Kind, other.Args...)
			alone.do(c.Kind, c.Args...)
			one.sameTold(alone)
			one.sameTold(one)
		}
		one.same()
		two.same()
	}
}
