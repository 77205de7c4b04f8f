package done_test

import (
	"math"
	"math/big"
	"slices"
	"testing"

	"quitrent/api"
	"quitrent/done"
)

// The chapter's numbers, by themselves.
const (
	most     = math.MaxInt64
	mostDay  = 1000000
	mostTold = 200
	whole    = 10000
)

// The methods, told short.
const (
	ratable   = 0
	point     = 1
	milestone = 2
	usage     = 3
)

// told is a number of a day.
type told struct {
	day int
	n   int64
}

// model is a log by the chapter's words: it keeps what was told, in the order in which it came, and goes through all of it each time.
type model struct {
	duty api.Duty
	told []told
}

// mayBe tells whether an obligation may be.
func mayBe(d api.Duty) bool {
	switch {
	case !slices.Contains([]int{ratable, point, milestone, usage}, d.Method), d.Units < 1:
		return false
	case d.First < 1, d.First > mostDay, d.Last < 1, d.Last > mostDay, d.Last < d.First:
		return false
	}
	return true
}

// exact tells the exact sum of the numbers told of days up to one, and of others.
func (m *model) exact(day int, others ...int64) *big.Int {
	sum := new(big.Int)
	for _, x := range m.told {
		if x.day <= day {
			sum.Add(sum, big.NewInt(x.n))
		}
	}
	for _, n := range others {
		sum.Add(sum, big.NewInt(n))
	}
	return sum
}

func (m *model) tell(day int, n int64) api.Errno {
	of := m.duty.Method
	same := func(x told) bool { return x.day == day }
	crossed := func(x told) bool { return x.day < day && x.n > n || x.day > day && x.n < n }
	switch {
	case of != milestone && of != usage, day < 1, day > mostDay, n < 1, of == milestone && n > whole:
		return api.ErrArg
	case of == milestone && slices.ContainsFunc(m.told, same):
		return api.ErrTwice
	case of == milestone && slices.ContainsFunc(m.told, crossed):
		return api.ErrOrder
	case len(m.told) >= mostTold:
		return api.ErrFull
	case of == usage && !m.exact(mostDay, n).IsInt64():
		return api.ErrOver
	}
	m.told = append(m.told, told{day, n})
	return api.OK
}

// days tells how many there are from one to another.
func days(from, to int) int64 {
	if to < from {
		return 0
	}
	return int64(to) - int64(from) + 1
}

func (m *model) through(day int) (int64, int64) {
	d := m.duty
	switch d.Method {
	case ratable:
		return days(d.First, min(d.Last, day)), days(d.First, d.Last)
	case point:
		if day >= d.First {
			return 1, 1
		}
		return 0, 1
	case milestone:
		numbers := []int64{0}
		for _, x := range m.told {
			if x.day <= day {
				numbers = append(numbers, x.n)
			}
		}
		return slices.Max(numbers), whole
	}
	sum := m.exact(day)
	if sum.Cmp(big.NewInt(d.Units)) > 0 {
		return d.Units, d.Units
	}
	return sum.Int64(), d.Units
}

// pair is a log and its model: each call is done to both, and the answers are held against each other.
type pair struct {
	t *testing.T
	l *done.Log
	m *model
}

// newPair makes a log of an obligation that may be.
func newPair(t *testing.T, d api.Duty) *pair {
	t.Helper()
	own := d
	own.Lines = slices.Clone(d.Lines)
	l, errno := done.New(d)
	if l == nil || errno != api.OK {
		t.Fatalf("New of %v: %v, %d", d, l, errno)
	}
	return &pair{t, l, &model{duty: own}}
}

// owed is an obligation of a method, of days 10 to 19 and 100 units.
func owed(method int) api.Duty {
	return api.Duty{Lines: []int{0, 2}, Alone: 500, Units: 100, Method: method, First: 10, Last: 19}
}

// ofUnits is an obligation by so many units that are told.
func ofUnits(units int64) api.Duty {
	d := owed(usage)
	d.Units = units
	return d
}

// fromTo is an obligation of a method, from one day to another.
func fromTo(method, first, last int) api.Duty {
	d := owed(method)
	d.First, d.Last = first, last
	return d
}

func (p *pair) tell(day int, n int64) api.Errno {
	p.t.Helper()
	got, want := p.l.Tell(day, n), p.m.tell(day, n)
	if got != want {
		p.t.Fatalf("Tell of %d, %d, to %v, %v: %d, not %d", day, n, p.m.duty, p.m.told, got, want)
	}
	return got
}

// must holds what Tell answers, and, if that is an error, that it leaves the log as it was.
func (p *pair) must(want api.Errno, day int, n int64) {
	p.t.Helper()
	if got := p.tell(day, n); got != want {
		p.t.Fatalf("Tell of %d, %d, to %v, %v: %d, not %d", day, n, p.m.duty, p.m.told, got, want)
	}
	if want != api.OK {
		p.same()
	}
}

// mustDone holds how much of what is done through a day.
func (p *pair) mustDone(n, of int64, day int) {
	p.t.Helper()
	if got, gotOf := p.l.Through(day); got != n || gotOf != of {
		p.t.Fatalf("Through %d, of %v, %v: %d of %d, not %d of %d", day, p.m.duty, p.m.told, got, gotOf, n, of)
	}
}

// mustBe holds what is done through a day against the model, and tells it.
func (p *pair) mustBe(day int) (int64, int64) {
	p.t.Helper()
	n, of := p.m.through(day)
	p.mustDone(n, of, day)
	return n, of
}

// asked are days on each side of those at which anything may change, and far ones, in their order.
func (p *pair) asked() []int {
	l := []int{math.MinInt, math.MinInt + 1, math.MinInt32, -mostDay, -1, 0, 1, 2, mostDay - 1, mostDay, mostDay + 1, 2 * mostDay, math.MaxInt32, 1 << 32, 1<<32 + 15, math.MaxInt - 1, math.MaxInt}
	for _, x := range append([]told{{p.m.duty.First, 0}, {p.m.duty.Last, 0}}, p.m.told...) {
		l = append(l, x.day-1, x.day, x.day+1)
	}
	slices.Sort(l)
	return slices.Compact(l)
}

// same holds all that a log tells; P14.4: what is done is from 0 to the whole, and never less through a later day.
func (p *pair) same() {
	p.t.Helper()
	before, first := int64(0), int64(0)
	for _, day := range p.asked() {
		n, of := p.mustBe(day)
		if n < before || n > of || of < 1 || first > 0 && of != first {
			p.t.Fatalf("Through %d, of %v, %v: %d of %d, behind %d", day, p.m.duty, p.m.told, n, of, before)
		}
		before, first = n, of
	}
	if many := p.l.Many(); many != len(p.m.told) {
		p.t.Fatalf("Many of %v: %d, not %d", p.m.duty, many, len(p.m.told))
	}
	if d := p.l.Duty(); !alike(d, p.m.duty) {
		p.t.Fatalf("Duty: %v, not %v", d, p.m.duty)
	}
}

// alike tells whether obligations are the same, of the same lines.
func alike(d, e api.Duty) bool {
	return slices.Equal(d.Lines, e.Lines) && d.Alone == e.Alone && d.Units == e.Units &&
		d.Method == e.Method && d.First == e.First && d.Last == e.Last
}

// random tells numbers from 0 on, below one, the same ones each time.
func random() func(below int) int {
	state := uint64(88172645463325252)
	return func(below int) int {
		state ^= state << 13
		state ^= state >> 7
		state ^= state << 17
		return int((state >> 11) % uint64(below))
	}
}
