package engine_test

import (
	"fmt"
	"slices"
	"testing"

	"quitrent/api"
	"quitrent/codec"
	"quitrent/engine"
	"quitrent/fiscal"
)

// one is a command.
type one struct {
	kind int
	args []int64
}

// P18.2, P18.3: each row of five out of eight commands, to a contract that is signed ahead of them, of an engine of three periods.
func TestRows(t *testing.T) {
	c := four()
	c.Periods = 3
	for _, lines := range [][][]int64{{row(byDay, 90, 20, 40)}, {row(percent, 90, 1, 60), row(atOnce, 10, 30, 30)}} {
		l := []one{
			{bill, []int64{0, 28, 30}}, {bill, []int64{0, 40, 70}},
			{closing, []int64{0}}, {closing, []int64{1}}, {closing, []int64{2}},
			{afresh, []int64{0, 25, -80}}, {onward, []int64{0, 25, 20}}, {tell, []int64{0, 0, 27, 5000}},
		}
		seen := map[api.Errno]int{}
		for row := range 1 << 15 {
			p := newPair(t, c)
			p.do(sign, of(0, 1, nil, lines...)...)
			for n := range 5 {
				x := l[row>>(3*n)&7]
				seen[p.do(x.kind, x.args...).errno]++
			}
			if row%8 == 0 {
				p.same()
			} else {
				p.mustFollow()
			}
		}
		for _, errno := range []api.Errno{api.OK, api.ErrArg, api.ErrClosed, api.ErrOrder} {
			if seen[errno] < 1000 {
				t.Errorf("error %d came %d times", errno, seen[errno])
			}
		}
	}
}

// anyLine is a line, mostly such that may be, of days up to a last one.
func anyLine(next func(int) int, last int) []int64 {
	first := int64(1 + next(last))
	x := []int64{int64(next(8)), int64(1 + next(9)), int64(next(500)), first, first + int64(next(60))}
	switch next(100) {
	case 0:
		x[0] = huge
	case 1:
		x[2] = size(next)
	case 2:
		x[1] = size(next)
	case 3:
		x[next(5)] = signed(next)
	}
	return x
}

// anySign are Args of a sign, mostly such that may be.
func anySign(next func(int) int, last int) []int64 {
	var come [][2]int64
	for range next(4) {
		come = append(come, [2]int64{int64(next(200) - 60), int64(next(whole + 10))})
	}
	if next(40) == 0 {
		come = append(come, [2]int64{signed(next), int64(next(whole))})
	}
	var lines [][]int64
	for range []int{1, 2, 3, 5, 12, 13}[next(11)/2] {
		lines = append(lines, anyLine(next, last))
	}
	return of(int64(next(mostContracts+1)), int64(1+next(last)), come, lines...)
}

// anyKind are Kinds of commands, those that do more oftener.
func anyKind(next func(int) int) int {
	return []int{sign, sign, bill, bill, bill, bill, tell, tell, tell, tell, onward, onward, afresh, afresh, price, earned, balance}[next(17)]
}

// anyOne is a command of any Kind, mostly such that isn't refused, ahead of a last day.
func anyOne(p *pair, next func(int) int, last int) one {
	number, day := int64(next(mostContracts)), int64(1+next(last))
	open := p.m.ends[min(p.m.open, p.c.Periods-1)]
	d := p.m.deals[int(number)]
	duties, changed := 1, int64(1)
	if d != nil {
		duties, changed = len(d.owed), int64(d.day)
	}
	duty := int64(next(duties))
	x := one{kind: anyKind(next)}
	switch x.kind {
	case sign:
		x.args = anySign(next, last)
	case bill:
		x.args = []int64{number, int64(open[0] + next(open[1]-open[0]+1)), 1 + int64(next(300))}
		if next(12) == 0 {
			x.args[1] = day
		}
	case tell:
		x.args = []int64{number, duty, day, int64(1 + next(3))}
		if d != nil && d.owed[duty].duty.Method == milestone {
			x.args[3] = day*whole/int64(last) + int64(next(30))
		}
	case onward:
		x.args = []int64{number, max(changed, day), int64(next(400)) - 100}
	case afresh:
		x.args = []int64{number, changed + int64(next(9)), int64(next(400)) - 200}
	case price:
		x.args = []int64{int64(next(9)), day, int64(1 + next(300))}
	case earned:
		x.args = []int64{number, duty, day}
	case balance:
		x.args = []int64{int64(next(4)), number, int64(next(p.c.Periods))}
	}
	if next(25) == 0 {
		x.args[next(len(x.args))] = []int64{-1, 0, 1, 40, signed(next)}[next(5)]
	}
	if next(100) == 0 {
		x.args = append(x.args, 0)[:next(len(x.args)+2)]
	}
	return x
}

// mixed does a long row of mixed commands, closes each period in turn, and tells the commands and how often each error came.
func mixed(p *pair, next func(int) int, many int, seen map[[2]int]int) []one {
	p.t.Helper()
	var l []one
	last := p.m.ends[p.c.Periods-1][1] + 20
	for period := range p.c.Periods {
		for n := range many {
			x := anyOne(p, next, last)
			if n == many-1 {
				x = one{closing, []int64{int64(period)}}
			} else if next(200) == 0 {
				x = one{closing, []int64{int64(next(p.c.Periods + 1))}}
				if x.args[0] == int64(period) {
					continue
				}
			}
			l = append(l, x)
			seen[[2]int{x.kind, int(p.do(x.kind, x.args...).errno)}]++
			p.mustFollow()
			if n%100 == 0 {
				p.same()
			}
		}
		p.same()
	}
	return l
}

// configs are engines of both kinds of calendars, of some periods.
func configs() []engine.Config {
	months, few, strict := four(), four(), four()
	months.Calendar, months.Periods = fiscal.Calendar{Kind: fiscal.Months, First: 32}, 6
	few.Calendar, few.Periods, few.Bound = fiscal.Calendar{Kind: fiscal.Weeks, First: 29}, 1, 0
	strict.Periods, strict.Bound = 12, whole
	return []engine.Config{four(), months, few, strict}
}

// P18.1 to P18.3: long rows of mixed commands, which come to each error that they may come to.
func TestMixed(t *testing.T) {
	next := random()
	seen := map[[2]int]int{}
	for range 6 {
		for _, c := range configs() {
			mixed(newPair(t, c), next, 400, seen)
		}
	}
	for kind, l := range map[int][]api.Errno{
		sign:    {api.OK, api.ErrForm, api.ErrName, api.ErrTwice, api.ErrArg, api.ErrFull, api.ErrOver},
		bill:    {api.OK, api.ErrForm, api.ErrName, api.ErrArg, api.ErrClosed, api.ErrOrder},
		tell:    {api.OK, api.ErrForm, api.ErrName, api.ErrArg, api.ErrTwice, api.ErrOrder},
		onward:  {api.OK, api.ErrForm, api.ErrName, api.ErrArg, api.ErrOrder},
		afresh:  {api.OK, api.ErrForm, api.ErrName, api.ErrArg, api.ErrOrder},
		price:   {api.OK, api.ErrForm, api.ErrName, api.ErrArg, api.ErrTwice},
		closing: {api.OK, api.ErrArg},
		earned:  {api.OK, api.ErrForm, api.ErrName},
		balance: {api.OK, api.ErrForm, api.ErrName, api.ErrArg},
	} {
		for _, errno := range l {
			if many := seen[[2]int{kind, int(errno)}]; many < 5 {
				t.Errorf("Kind %d: error %d came %d times", kind, errno, many)
			}
		}
	}
}

// P18.2, P18.3: prices, bills and changes of all sizes.
func TestMixedOfAllSizes(t *testing.T) {
	next := random()
	seen := map[api.Errno]int{}
	for range 150 {
		p := newPair(t, four())
		for period := range int64(4) {
			for range 60 {
				number, day := int64(next(4)), int64(1+next(150))
				x := one{kind: []int{sign, bill, bill, onward, afresh, tell}[next(6)]}
				switch x.kind {
				case sign:
					x.args = of(number, day, nil, row(int64(next(4)), size(next), 1+int64(next(40)), 41+int64(next(90))), []int64{little, max(1, size(next)/2), 0, 1, 9})
				case bill:
					x.args = []int64{number, int64(p.m.ends[period][0]), size(next)}
				case tell:
					x.args = []int64{number, int64(next(2)), day, max(1, size(next))}
				default:
					x.args = []int64{number, day, signed(next)}
				}
				seen[p.do(x.kind, x.args...).errno]++
				p.mustFollow()
			}
			p.do(closing, period)
			p.same()
		}
	}
	for _, errno := range []api.Errno{api.OK, api.ErrArg, api.ErrOver} {
		if seen[errno] < 500 {
			t.Errorf("error %d came %d times", errno, seen[errno])
		}
	}
}

// replies are what commands are replied with, in words.
func replies(e *engine.Engine, l []one) []string {
	var told []string
	for _, x := range l {
		r := e.Do(codec.Command{Kind: x.kind, Args: slices.Clone(x.args)})
		told = append(told, fmt.Sprint(r.E, r.Values))
	}
	return told
}

// anew makes an engine of a Config that may be.
func anew(t *testing.T, c engine.Config) *engine.Engine {
	t.Helper()
	e, errno := engine.New(c)
	if errno != api.OK {
		t.Fatalf("New of %v: %d", c, errno)
	}
	return e
}

// P18.2: commands with errors change nothing: those that were replied with OK are replied the same without them. R4: and all the same again.
func TestWithoutErrors(t *testing.T) {
	next := random()
	for _, c := range configs() {
		l := mixed(newPair(t, c), next, 300, map[[2]int]int{})
		all := replies(anew(t, c), l)
		if again := replies(anew(t, c), l); !slices.Equal(again, all) {
			t.Fatal("the same commands are replied otherwise")
		}
		var good []one
		var want []string
		for i, x := range l {
			if all[i][:2] == "0 " {
				good, want = append(good, x), append(want, all[i])
			}
		}
		if got := replies(anew(t, c), good); !slices.Equal(got, want) || len(good) < 50 || len(l)-len(good) < 50 {
			t.Fatalf("without the commands that were refused %d are replied otherwise", len(good))
		}
	}
}

// R5: two engines beside each other, of the same items, to which commands come in turn.
func TestBeside(t *testing.T) {
	next := random()
	c := four()
	p, q := newPair(t, c), newPair(t, c)
	for period := range int64(4) {
		for range 300 {
			x, y := anyOne(p, next, 140), anyOne(q, next, 140)
			p.do(x.kind, x.args...)
			q.do(y.kind, y.args...)
		}
		p.same()
		q.same()
		p.do(closing, period)
		if period%2 == 0 {
			q.do(closing, period/2)
		}
		p.same()
		q.same()
	}
}

// P18.3: what was told of closed periods stays, whatever comes behind, also changes that are dated back, and all that they change comes in the open period.
func TestClosedPeriods(t *testing.T) {
	p := newPair(t, four())
	p.must([]int64{100, 1}, sign, days56(0)...)
	p.must([]int64{100, 1}, sign, of(1, 1, nil, row(percent, 100, 1, 56))...)
	p.must([]int64{60, 0}, bill, 0, 1, 60)
	p.must([]int64{1}, closing, 0)
	for _, x := range []one{
		{afresh, []int64{0, 1, 20}}, {tell, []int64{1, 0, 5, 5000}}, {onward, []int64{0, 20, 8}}, {price, []int64{0, 1, 90}},
		{bill, []int64{1, 40, 8}}, {sign, of(2, 1, nil, row(atOnce, 33, 1, 1))}, {afresh, []int64{0, 25, -90}}, {closing, []int64{1}},
		{afresh, []int64{0, 25, 1}}, {tell, []int64{1, 0, 6, whole}}, {bill, []int64{1, 60, 70}}, {closing, []int64{2}}, {closing, []int64{3}},
	} {
		if got := p.do(x.kind, x.args...); got.errno != api.OK {
			t.Fatalf("%d of %v: %d", x.kind, x.args, got.errno)
		}
		p.same()
		p.must([]int64{60}, balance, receivable, 0, 0)
		p.must([]int64{-10}, balance, liability, 0, 0)
		p.must([]int64{-50}, balance, revenue, 0, 0)
		p.must([]int64{0}, balance, revenue, 1, 0)
	}
	p.mustStand(0, 60, 39)
	p.mustStand(1, 78, 100)
	p.mustStand(2, 0, 33)
}
