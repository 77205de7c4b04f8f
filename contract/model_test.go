package contract_test

import (
	"math"
	"math/big"
	"slices"
	"testing"

	"quitrent/api"
	"quitrent/book"
	"quitrent/consider"
	"quitrent/contract"
	"quitrent/done"
	"quitrent/duty"
)

// The chapters' numbers, by themselves.
const (
	most        = math.MaxInt64
	least       = math.MinInt64
	mostDay     = 1000000
	mostChanges = 40
	mostTold    = 200
	whole       = 10000
)

// The methods, told short; the test's book has an item of each by its number, and each is worth 60 alone.
const (
	ratable   = 0
	point     = 1
	milestone = 2
	usage     = 3
)

// The test's book has these items, too.
const (
	bundled  = 4 // two that belong together, of ratable and usage
	along    = 5
	bundled2 = 6 // of another group
	series   = 7
	apart    = 8 // of the same group as bundled, but distinct
	little   = 9
	huge     = 10 // worth 2^62 alone
)

// newBook makes the test's book.
func newBook(t *testing.T) *book.Book {
	t.Helper()
	b, errno := book.New([]api.Item{
		{Tag: api.Distinct, Method: ratable, Price: 60},
		{Tag: api.Distinct, Method: point, Price: 60},
		{Tag: api.Distinct, Method: milestone, Price: 60},
		{Tag: api.Distinct, Method: usage, Price: 60},
		{Tag: api.Bundle, Group: 1, Method: ratable, Price: 20},
		{Tag: api.Bundle, Group: 1, Method: usage, Price: 40},
		{Tag: api.Bundle, Group: 2, Method: point, Price: 10},
		{Tag: api.Series, Method: usage, Price: 15},
		{Tag: api.Distinct, Group: 1, Method: ratable, Price: 90},
		{Tag: api.Distinct, Method: usage, Price: 1},
		{Tag: api.Distinct, Method: usage, Price: 1 << 62},
	})
	if errno != api.OK {
		t.Fatalf("a book: %d", errno)
	}
	return b
}

// line is one of an item, a unit and a charge, of days 10 to 19.
func line(item int, charge int64) api.Line {
	return api.Line{Item: item, Units: 1, Charge: charge, First: 10, Last: 19}
}

// linesOf are lines of items, of which the first one charges all.
func linesOf(charge int64, items ...int) []api.Line {
	var l []api.Line
	for _, item := range items {
		l = append(l, line(item, charge))
		charge = 0
	}
	return l
}

// span is one of an obligation's.
type span struct {
	from, origin int
	base, rest   int64
}

// owed is an obligation by the chapters' words.
type owed struct {
	duty  api.Duty
	log   *done.Log
	spans []span
}

// counts tells the span that counts at a day.
func (o *owed) counts(day int) span {
	counts := o.spans[0]
	for _, s := range o.spans {
		if s.from <= day {
			counts = s
		}
	}
	return counts
}

func (o *owed) earned(day int) int64 {
	s := o.counts(day)
	ahead, _ := o.log.Through(s.origin)
	n, all := o.log.Through(day)
	sum := big.NewInt(s.rest)
	if all != ahead {
		sum.Mul(sum, big.NewInt(n-ahead))
		sum.Div(sum, big.NewInt(all-ahead))
	}
	return sum.Add(sum, big.NewInt(s.base)).Int64()
}

func (o *owed) whole(day int) bool {
	n, all := o.log.Through(day)
	return n == all
}

func (o *owed) allotted() int64 {
	s := o.spans[len(o.spans)-1]
	return s.base + s.rest
}

// model is a contract by the chapter's words, which shares out and reckons what is earned with numbers of any size.
type model struct {
	owed    []*owed
	price   int64
	day     int
	changes int
	afresh  bool // whether what is allotted is by the whole price
	days    []int
}

// newModel makes the model of a contract, or tells why there can be none.
func newModel(b *book.Book, lines []api.Line, may []consider.Maybe, bound, day int) (*model, api.Errno) {
	if day < 1 || day > mostDay {
		return nil, api.ErrArg
	}
	duties, errno := duty.Find(b, lines, day)
	if errno != api.OK {
		return nil, errno
	}
	charged, errno := duty.Charge(lines)
	if errno != api.OK {
		return nil, errno
	}
	price, errno := consider.Likely(charged, may, bound)
	if errno != api.OK {
		return nil, errno
	}
	m := &model{price: price, day: day, afresh: true, days: []int{day}}
	for _, d := range duties {
		log, errno := done.New(d)
		if errno != api.OK {
			return nil, errno
		}
		m.owed = append(m.owed, &owed{duty: d, log: log})
		m.days = append(m.days, d.First, d.Last)
	}
	if !exact(m.alones()).IsInt64() {
		return nil, api.ErrOver
	}
	for i, n := range shares(price, m.alones()) {
		m.owed[i].spans = []span{{rest: n}}
	}
	return m, api.OK
}

func (m *model) alones() []int64 {
	var l []int64
	for _, o := range m.owed {
		l = append(l, o.duty.Alone)
	}
	return l
}

// exact tells a sum of any size.
func exact(l []int64) *big.Int {
	sum := new(big.Int)
	for _, n := range l {
		sum.Add(sum, big.NewInt(n))
	}
	return sum
}

// shares tells the portions of a total, 0 or more, by weights, one of which is above 0.
func shares(total int64, weights []int64) []int64 {
	all := exact(weights)
	got := make([]int64, len(weights))
	rests := make([]*big.Int, len(weights))
	missing := total
	for i, weight := range weights {
		part := new(big.Int).Mul(big.NewInt(total), big.NewInt(weight))
		part, rests[i] = part.DivMod(part, all, new(big.Int))
		got[i] = part.Int64()
		missing -= got[i]
	}
	for range missing {
		next := 0
		for i, rest := range rests {
			if rest.Cmp(rests[next]) > 0 {
				next = i
			}
		}
		got[next]++
		rests[next] = big.NewInt(-1)
	}
	return got
}

// all tells what all earned through a day.
func (m *model) all(day int) *big.Int {
	var l []int64
	for _, o := range m.owed {
		l = append(l, o.earned(day))
	}
	return exact(l)
}

func (m *model) tell(number, day int, n int64) api.Errno {
	if number < 0 || number >= len(m.owed) {
		return api.ErrName
	}
	errno := m.owed[number].log.Tell(day, n)
	if errno == api.OK {
		m.days = append(m.days, day)
	}
	return errno
}

// refused tells why there can be no change of either kind, or that there can.
func (m *model) refused(day int, more int64) api.Errno {
	switch {
	case day < 1, day > mostDay:
		return api.ErrArg
	case day < m.day:
		return api.ErrOrder
	case m.changes >= mostChanges:
		return api.ErrFull
	case !exact([]int64{m.price, more}).IsInt64():
		return api.ErrOver
	}
	return api.OK
}

func (m *model) changed(day int, more int64, afresh bool) {
	m.price += more
	m.day = day
	m.changes++
	m.afresh = afresh
	m.days = append(m.days, day)
}

func (m *model) onward(_, day int, more int64) api.Errno {
	if errno := m.refused(day, more); errno != api.OK {
		return errno
	}
	left := new(big.Int).Sub(big.NewInt(m.price+more), m.all(day))
	weights, open := m.alones(), false
	for i, o := range m.owed {
		if o.whole(day) {
			weights[i] = 0
		} else {
			open = true
		}
	}
	if left.Sign() < 0 || !open {
		return api.ErrArg
	}
	for i, n := range shares(left.Int64(), weights) {
		o := m.owed[i]
		o.spans = append(o.spans, span{day, day, o.earned(day), n})
	}
	m.changed(day, more, false)
	return api.OK
}

func (m *model) again(_, day int, more int64) api.Errno {
	if errno := m.refused(day, more); errno != api.OK {
		return errno
	}
	if m.price+more < 0 {
		return api.ErrArg
	}
	for i, n := range shares(m.price+more, m.alones()) {
		m.owed[i].spans = append(m.owed[i].spans, span{from: day, rest: n})
	}
	m.changed(day, more, true)
	return api.OK
}

// call is one of those that change a contract; only what is told is of an obligation.
type call struct {
	name     string
	contract func(c *contract.Contract, number, day int, n int64) api.Errno
	model    func(m *model, number, day int, n int64) api.Errno
}

var (
	tell   = call{"Tell", (*contract.Contract).Tell, (*model).tell}
	onward = call{"Onward", func(c *contract.Contract, _, day int, n int64) api.Errno { return c.Onward(day, n) }, (*model).onward}
	afresh = call{"Afresh", func(c *contract.Contract, _, day int, n int64) api.Errno { return c.Afresh(day, n) }, (*model).again}
)

// changes are the calls by which the price changes.
func changes() []call { return []call{onward, afresh} }

// pair is a contract and its model: each call is done to both, and the answers are held against each other.
type pair struct {
	t *testing.T
	c *contract.Contract
	m *model
}

// sign makes a contract and its model, or neither, with the same error.
func sign(t *testing.T, b *book.Book, lines []api.Line, may []consider.Maybe, bound, day int) (*pair, api.Errno) {
	t.Helper()
	c, errno := contract.New(b, lines, may, bound, day)
	m, want := newModel(b, lines, may, bound, day)
	if errno != want || (c == nil) != (errno != api.OK) {
		t.Fatalf("New of %v, %v, %d, %d: %v, %d, not %d", lines, may, bound, day, c, errno, want)
	}
	return &pair{t, c, m}, errno
}

// mustSign makes a contract of lines of the test's book that may be, at day 1.
func mustSign(t *testing.T, lines []api.Line) *pair {
	t.Helper()
	p, errno := sign(t, newBook(t), lines, nil, 0, 1)
	if errno != api.OK {
		t.Fatalf("New of %v: %d", lines, errno)
	}
	return p
}

func (p *pair) do(x call, number, day int, n int64) api.Errno {
	p.t.Helper()
	got, want := x.contract(p.c, number, day, n), x.model(p.m, number, day, n)
	if got != want {
		p.t.Fatalf("%s of %d, %d, %d, %s: %d, not %d", x.name, number, day, n, p.told(), got, want)
	}
	return got
}

// must holds what a call answers, and, if that is an error, that it leaves the contract as it was.
func (p *pair) must(want api.Errno, x call, number, day int, n int64) {
	p.t.Helper()
	if got := p.do(x, number, day, n); got != want {
		p.t.Fatalf("%s of %d, %d, %d, %s: %d, not %d", x.name, number, day, n, p.told(), got, want)
	}
	if want != api.OK {
		p.same()
	}
}

// mustStand holds the price, the day of the last change, and what is allotted to each.
func (p *pair) mustStand(price int64, day int, allotted ...int64) {
	p.t.Helper()
	if p.c.Price() != price || p.c.Day() != day || p.c.Many() != len(allotted) {
		p.t.Fatalf("%d at %d, of %d, not %d at %d, of %d", p.c.Price(), p.c.Day(), p.c.Many(), price, day, len(allotted))
	}
	for i, n := range allotted {
		if got := p.c.Allotted(i); got != n {
			p.t.Fatalf("allotted to %d: %d, not %d", i, got, n)
		}
	}
	p.same()
}

// mustEarn holds what is earned of each through a day, and of all.
func (p *pair) mustEarn(day int, want ...int64) {
	p.t.Helper()
	for i, n := range want {
		if got := p.c.Earned(i, day); got != n {
			p.t.Fatalf("Earned of %d, through %d: %d, not %d", i, day, got, n)
		}
	}
	if got := p.c.All(day); got != exact(want).Int64() || p.c.Many() != len(want) {
		p.t.Fatalf("All through %d: %d, not %v", day, got, want)
	}
}

// farDays are days below all, behind all and at the bounds of days.
func farDays() []int {
	return []int{math.MinInt, math.MinInt32, -mostDay, -1, 0, 1, 2, mostDay - 1, mostDay, mostDay + 1, math.MaxInt32, 1<<32 + 15, math.MaxInt}
}

// asked are days on each side of those at which anything may change, and far ones, in their order.
func (p *pair) asked() []int {
	l := farDays()
	for _, day := range p.m.days {
		l = append(l, day-1, day, day+1)
	}
	slices.Sort(l)
	return slices.Compact(l)
}

// same holds all that a contract tells against the model.
func (p *pair) same() {
	p.t.Helper()
	if p.c.Price() != p.m.price || p.c.Day() != p.m.day || p.c.Many() != len(p.m.owed) {
		p.t.Fatalf("%s: %d at %d, of %d", p.told(), p.c.Price(), p.c.Day(), p.c.Many())
	}
	days := p.asked()
	for i, o := range p.m.owed {
		if got := p.c.Allotted(i); got != o.allotted() {
			p.t.Fatalf("Allotted of %d, %s: %d, not %d", i, p.told(), got, o.allotted())
		}
		for _, day := range days {
			if got := p.c.Earned(i, day); got != o.earned(day) {
				p.t.Fatalf("Earned of %d, through %d, %s: %d, not %d", i, day, p.told(), got, o.earned(day))
			}
		}
		if d, ok := p.c.Duty(i); !ok || !alike(d, o.duty) {
			p.t.Fatalf("Duty of %d: %v, %t, not %v", i, d, ok, o.duty)
		}
	}
	for _, day := range days {
		if got := p.c.All(day); big.NewInt(got).Cmp(p.m.all(day)) != 0 {
			p.t.Fatalf("All through %d, %s: %d, not %v", day, p.told(), got, p.m.all(day))
		}
	}
	p.mustHaveNone()
	p.mustFollow(days)
}

// mustHaveNone holds P16.1 of numbers by which there is no obligation.
func (p *pair) mustHaveNone() {
	p.t.Helper()
	many := len(p.m.owed)
	for _, number := range []int{math.MinInt, math.MinInt32, -2, -1, many, many + 1, 1 << 32, math.MaxInt} {
		d, ok := p.c.Duty(number)
		if ok || !alike(d, api.Duty{}) || p.c.Allotted(number) != 0 || p.c.Earned(number, 14) != 0 || p.c.Earned(number, mostDay) != 0 {
			p.t.Fatalf("of %d: %v, %t, %d, %d", number, d, ok, p.c.Allotted(number), p.c.Earned(number, mostDay))
		}
		if errno := p.c.Tell(number, 14, 1); errno != api.ErrName {
			p.t.Fatalf("Tell of %d: %d", number, errno)
		}
	}
}

// mustFollow holds P16.4 of what a contract tells, by what is done of the model's obligations.
func (p *pair) mustFollow(days []int) {
	p.t.Helper()
	var allotted []int64
	for i := range p.c.Many() {
		allotted = append(allotted, p.c.Allotted(i))
	}
	if exact(allotted).Cmp(big.NewInt(p.c.Price())) != 0 {
		p.t.Fatalf("allotted %v, of a price of %d", allotted, p.c.Price())
	}
	if p.m.afresh {
		p.mustBeClose(allotted)
	}
	before := int64(0)
	for _, day := range days {
		if day < p.c.Day() {
			continue
		}
		n := p.c.All(day)
		if n < before || n > p.c.Price() || p.m.whole(day) && n != p.c.Price() {
			p.t.Fatalf("All through %d, %s: %d, behind %d", day, p.told(), n, before)
		}
		before = n
	}
}

// mustBeClose holds that each allotment is less than one unit from its exact share of the price.
func (p *pair) mustBeClose(allotted []int64) {
	p.t.Helper()
	alones := p.m.alones()
	all := exact(alones)
	for i, n := range allotted {
		off := new(big.Int).Mul(big.NewInt(n), all)
		off.Sub(off, new(big.Int).Mul(big.NewInt(p.c.Price()), big.NewInt(alones[i])))
		if off.CmpAbs(all) >= 0 {
			p.t.Fatalf("allotted %v, of %d, by %v", allotted, p.c.Price(), alones)
		}
	}
}

// whole tells whether each obligation is whole through a day.
func (m *model) whole(day int) bool {
	for _, o := range m.owed {
		if !o.whole(day) {
			return false
		}
	}
	return true
}

// told tells a model in a few words.
func (p *pair) told() string {
	words := "of"
	for _, o := range p.m.owed {
		words += " " + text(o.duty.Alone) + ":"
		for _, s := range o.spans {
			words += " " + text(int64(s.from)) + "/" + text(s.base) + "+" + text(s.rest)
		}
	}
	return words
}

func text(n int64) string { return big.NewInt(n).String() }

// alike tells whether obligations are the same, of the same lines.
func alike(d, e api.Duty) bool {
	return slices.Equal(d.Lines, e.Lines) && d.Alone == e.Alone && d.Units == e.Units &&
		d.Method == e.Method && d.First == e.First && d.Last == e.Last
}

// random tells numbers from 0 on, below one, the same ones each time.
func random() func(below int) int {
	state := uint64(88172645463325252)
	return func(below int) int {
		state ^= state << 13
		state ^= state >> 7
		state ^= state << 17
		return int((state >> 11) % uint64(below))
	}
}
