package engine_test

import (
	"math"
	"slices"
	"testing"

	"quitrent/api"
	"quitrent/codec"
	"quitrent/engine"
	"quitrent/fiscal"
)

// refuses holds the error of New, with nothing beside it.
func refuses(t *testing.T, want api.Errno, c engine.Config) {
	t.Helper()
	if e, errno := engine.New(c); e != nil || errno != want {
		t.Fatalf("New of %v: %v, %d, not %d", c, e, errno, want)
	}
}

// lots are so many items that may be.
func lots(many int) []api.Item { return slices.Repeat([]api.Item{{Price: 1}}, many) }

// P18.1: the chapter's example.
func TestExample(t *testing.T) {
	p := newPair(t, four())
	p.must([]int64{100, 1}, sign, of(0, 1, nil, row(byDay, 100, 1, 56))...)
	p.must([]int64{60, 0}, bill, 0, 1, 60)
	p.must([]int64{1}, closing, 0)
	p.same()
	p.mustStand(0, 60, 50)
	p.must([]int64{1}, closing, 1)
	p.mustStand(0, 60, 100)
	p.must([]int64{40}, balance, asset, 0, 1)
	p.same()
}

// P18.1: New with a calendar, and with so many periods, that may be or may not.
func TestNew(t *testing.T) {
	for _, calendar := range []fiscal.Calendar{{Kind: fiscal.Months, First: 2}, {Kind: fiscal.Months, First: 0}, {Kind: fiscal.Months, First: 999999}, {Kind: fiscal.Months, First: math.MaxInt}, {Kind: fiscal.Weeks, First: 0}, {Kind: fiscal.Weeks, First: -1}, {Kind: fiscal.Weeks, First: mostDay}, {Kind: fiscal.Weeks, First: math.MinInt}, {Kind: 2, First: 1}, {Kind: -1, First: 1}, {}} {
		c := four()
		c.Calendar = calendar
		refuses(t, api.ErrArg, c)
	}
	for _, calendar := range []fiscal.Calendar{{Kind: fiscal.Months, First: 1}, {Kind: fiscal.Months, First: 32}, {Kind: fiscal.Weeks, First: 1}, {Kind: fiscal.Weeks, First: 2}, {Kind: fiscal.Weeks, First: 700000}} {
		c := four()
		c.Calendar = calendar
		newPair(t, c).same()
	}
	for _, periods := range []int{math.MinInt, -1, 0, mostPeriods + 1, math.MaxInt} {
		c := four()
		c.Periods = periods
		refuses(t, api.ErrArg, c)
	}
	for _, periods := range []int{1, 2, mostPeriods - 1, mostPeriods} {
		c := four()
		c.Periods = periods
		newPair(t, c).same()
	}
}

// P18.1: New with items and a bound that may be or may not.
func TestNewOfItems(t *testing.T) {
	for _, items := range [][]api.Item{nil, {}, lots(1), lots(mostItems)} {
		c := four()
		c.Items = items
		p := newPair(t, c)
		p.same()
		p.mustRefuse(api.ErrName, price, int64(len(items)), 1, 1)
		if len(items) > 0 {
			p.must(nil, price, int64(len(items)-1), 1, 1)
		}
	}
	for _, x := range []api.Item{{}, {Price: -1}, {Tag: 3, Price: 1}, {Tag: -1, Price: 1}, {Method: 4, Price: 1}, {Method: -1, Price: 1}, {Group: 100, Price: 1}, {Group: -1, Price: 1}} {
		c := four()
		c.Items = append(c.Items, x)
		refuses(t, api.ErrArg, c)
	}
	for _, bound := range []int{math.MinInt, -1, whole + 1, 1 << 32, math.MaxInt} {
		c := four()
		c.Bound = bound
		refuses(t, api.ErrArg, c)
	}
	for _, bound := range []int{0, 1, whole - 1, whole} {
		c := four()
		c.Bound = bound
		p := newPair(t, c)
		p.must([]int64{100 + at(bound <= 3000, 50) - at(whole-bound < 3000, 20), 1}, sign, of(0, 1, [][2]int64{{50, 3000}, {-20, 3000}}, row(byDay, 100, 1, 9))...)
		p.same()
	}
}

// at tells a number where something holds, else 0.
func at(holds bool, n int64) int64 {
	if holds {
		return n
	}
	return 0
}

// P18.1: the errors of New, in their order.
func TestNewInOrder(t *testing.T) {
	c := four()
	c.Items, c.Bound = lots(mostItems+1), -1
	refuses(t, api.ErrFull, c)
	c.Items[3].Price = 0
	refuses(t, api.ErrFull, c)
	c.Periods = 0
	refuses(t, api.ErrArg, c)
	c.Periods, c.Calendar.Kind = 4, 2
	refuses(t, api.ErrArg, c)
	refuses(t, api.ErrArg, engine.Config{})
}

// P18.1: Contract, of numbers by which there is one or none.
func TestContract(t *testing.T) {
	p := newPair(t, four())
	for _, number := range []int64{39, 0, 17} {
		p.must([]int64{number, 1}, sign, of(number, 1, nil, row(byDay, number, 1, 56))...)
		p.same()
	}
	for _, number := range append(farInts(), 1, 16, 38) {
		if c, billed, recognized, ok := p.e.Contract(number); c != nil || billed != 0 || recognized != 0 || ok {
			t.Fatalf("of %d: %v, %d, %d, %t", number, c, billed, recognized, ok)
		}
	}
	p.must([]int64{5, 0}, bill, 39, 1, 5)
	p.must([]int64{2}, closing, 0)
	p.mustStand(0, 0, 0)
	p.mustStand(17, 0, 8)
	p.mustStand(39, 5, 19)
	one, _, _, _ := p.e.Contract(39)
	if other, _, _, _ := p.e.Contract(39); one != other || one.Price() != 39 {
		t.Fatal("Contract tells another one")
	}
	if p.e.Ledger() != p.e.Ledger() || p.e.Ledger().Many() != 3 {
		t.Fatal("Ledger tells another one")
	}
}

// P18.2: a Kind that is none, and Args that are too few or too many, of each Kind.
func TestForm(t *testing.T) {
	p := newPair(t, four())
	p.must([]int64{100, 1}, sign, of(0, 1, nil, row(byDay, 100, 1, 56))...)
	for _, kind := range []int{math.MinInt, -1 << 32, -256, -2, -1, 0, 10, 11, 255, 256, 257, 1<<32 + 1, 1<<32 + 7, math.MaxInt} {
		for many := range 9 {
			p.mustRefuse(api.ErrForm, kind, make([]int64, many)...)
		}
		p.mustRefuse(api.ErrForm, kind, of(1, 1, nil, row(byDay, 1, 1, 9))...)
	}
	want := map[int]int{bill: 3, tell: 4, onward: 3, afresh: 3, price: 3, closing: 1, earned: 3, balance: 3}
	for kind := sign; kind <= balance; kind++ {
		for many := range 70 {
			if kind != sign && many == want[kind] || kind == sign && many == 4 {
				continue
			}
			p.mustRefuse(api.ErrForm, kind, make([]int64, many)...)
			p.mustRefuse(api.ErrForm, kind, slices.Repeat([]int64{most}, many)...)
		}
	}
	if r := p.e.Do(codec.Command{}); r.E != api.ErrForm || len(r.Values) != 0 {
		t.Fatalf("of none: %v", r)
	}
}

// P18.2: Args of a sign that are as many as its counts tell, or not.
func TestFormOfSign(t *testing.T) {
	p := newPair(t, four())
	for m := range mostRows + 3 {
		for k := range mostRows + 3 {
			args := of(mostContracts, 1, make([][2]int64, m), slices.Repeat([][]int64{row(byDay, 1, 1, 9)}, k)...)
			want := api.ErrName
			if m > mostRows || k > mostRows {
				want = api.ErrForm
			}
			p.mustRefuse(want, sign, args...)
			p.mustRefuse(api.ErrForm, sign, append(args, 0)...)
			for _, few := range []int{1, 2, 3, 4, 5, 6} {
				p.mustRefuse(api.ErrForm, sign, args[:max(0, len(args)-few)]...)
			}
		}
	}
	args := of(0, 1, [][2]int64{{50, 6000}, {7, 1}}, row(byDay, 100, 1, 9), row(atOnce, 5, 1, 9))
	for many := range args {
		p.mustRefuse(api.ErrForm, sign, args[:many]...)
	}
	for _, at := range []int{2, 7} {
		for _, n := range append(far(), 1, 3, mostRows, mostRows+1, -2, 1<<32+2, 2-1<<32) {
			if n == args[at] {
				continue
			}
			wrong := slices.Clone(args)
			wrong[at] = n
			p.mustRefuse(api.ErrForm, sign, wrong...)
		}
	}
	p.must([]int64{155, 2}, sign, args...)
	p.same()
}

// P18.2: all that may come, and all lines, that a sign may have: more lines than a contract has are the contract's error.
func TestMostOfASign(t *testing.T) {
	come := slices.Repeat([][2]int64{{3, whole}}, mostRows)
	p := newPair(t, four())
	p.must([]int64{mostRows*3 + mostLines*100, mostLines}, sign, of(0, 1, come, slices.Repeat([][]int64{row(byDay, 100, 1, 9)}, mostLines)...)...)
	for k := mostLines + 1; k <= mostRows; k++ {
		p.mustRefuse(api.ErrFull, sign, of(1, 1, come, slices.Repeat([][]int64{row(byDay, 100, 1, 9)}, k)...)...)
	}
	p.mustRefuse(api.ErrArg, sign, of(1, 1, come)...)
	p.must([]int64{mostRows*3 + 1, 1}, sign, of(1, 1, come, row(byDay, 1, 1, 9))...)
	p.same()
}
