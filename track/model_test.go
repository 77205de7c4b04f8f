package track_test

import (
	"math"
	"math/big"
	"slices"
	"testing"

	"quitrent/api"
	"quitrent/done"
	"quitrent/track"
)

// The chapters' numbers, by themselves.
const (
	most      = math.MaxInt64
	mostDay   = 1000000
	mostSpans = 50
	mostTold  = 200
	whole     = 10000
)

// The methods, told short.
const (
	ratable   = 0
	point     = 1
	milestone = 2
	usage     = 3
)

// span is one of a model's.
type span struct {
	from, origin int
	base, rest   int64
}

// model is a track by the chapter's words: it has a log of its own, and what is earned is reckoned with numbers of any size.
type model struct {
	log   *done.Log
	told  []int // the days of which something was told
	spans []span
}

func (m *model) last() span { return m.spans[len(m.spans)-1] }

// counts tells the span that counts at a day.
func (m *model) counts(day int) span {
	counts := m.spans[0]
	for _, s := range m.spans {
		if s.from <= day {
			counts = s
		}
	}
	return counts
}

func (m *model) earned(day int) int64 {
	s := m.counts(day)
	ahead, _ := m.log.Through(s.origin)
	n, all := m.log.Through(day)
	sum := big.NewInt(s.rest)
	if all != ahead {
		sum.Mul(sum, big.NewInt(n-ahead))
		sum.Div(sum, big.NewInt(all-ahead))
	}
	return sum.Add(sum, big.NewInt(s.base)).Int64()
}

func (m *model) tell(day int, n int64) api.Errno {
	errno := m.log.Tell(day, n)
	if errno == api.OK {
		m.told = append(m.told, day)
	}
	return errno
}

// refused tells why there can be no change to what is allotted, which is to be no less than that, or that there can.
func (m *model) refused(day int, allotted, least int64) api.Errno {
	switch {
	case day < 0, day > mostDay:
		return api.ErrArg
	case day < m.last().from:
		return api.ErrOrder
	case len(m.spans) >= mostSpans:
		return api.ErrFull
	case allotted < least:
		return api.ErrArg
	}
	return api.OK
}

func (m *model) onward(day int, allotted int64) api.Errno {
	earned := m.earned(day)
	errno := m.refused(day, allotted, earned)
	if errno == api.OK {
		m.spans = append(m.spans, span{day, day, earned, allotted - earned})
	}
	return errno
}

func (m *model) afresh(day int, allotted int64) api.Errno {
	errno := m.refused(day, allotted, 0)
	if errno == api.OK {
		m.spans = append(m.spans, span{day, 0, 0, allotted})
	}
	return errno
}

// call is one of those that change a track.
type call struct {
	name  string
	track func(t *track.Track, day int, n int64) api.Errno
	model func(m *model, day int, n int64) api.Errno
}

var (
	tell   = call{"Tell", (*track.Track).Tell, (*model).tell}
	onward = call{"Onward", (*track.Track).Onward, (*model).onward}
	afresh = call{"Afresh", (*track.Track).Afresh, (*model).afresh}
)

// changes are the calls by which another amount is allotted.
func changes() []call { return []call{onward, afresh} }

// pair is a track and its model: each call is done to both, and the answers are held against each other.
type pair struct {
	t *testing.T
	k *track.Track
	m *model
}

// newPair makes a track of an obligation and an allotment that may be.
func newPair(t *testing.T, d api.Duty, allotted int64) *pair {
	t.Helper()
	log, errno := done.New(d)
	if errno != api.OK {
		t.Fatalf("a log of %v: %d", d, errno)
	}
	k, errno := track.New(d, allotted)
	if k == nil || errno != api.OK {
		t.Fatalf("New of %v, %d: %v, %d", d, allotted, k, errno)
	}
	return &pair{t, k, &model{log: log, spans: []span{{rest: allotted}}}}
}

// owed is an obligation of a method, of days 10 to 19 and 100 units.
func owed(method int) api.Duty {
	return api.Duty{Lines: []int{0, 2}, Alone: 500, Units: 100, Method: method, First: 10, Last: 19}
}

// methods are the four.
func methods() []int { return []int{ratable, point, milestone, usage} }

// half is a track of an allotment, which is done by half through day 14, and whole through day 19 (but of Point, which is whole through day 10).
func half(t *testing.T, method int, allotted int64) *pair {
	t.Helper()
	p := newPair(t, owed(method), allotted)
	switch method {
	case milestone:
		p.must(api.OK, tell, 14, whole/2)
		p.must(api.OK, tell, 19, whole)
	case usage:
		p.must(api.OK, tell, 14, 50)
		p.must(api.OK, tell, 19, 50)
	}
	return p
}

func (p *pair) do(c call, day int, n int64) api.Errno {
	p.t.Helper()
	got, want := c.track(p.k, day, n), c.model(p.m, day, n)
	if got != want {
		p.t.Fatalf("%s of %d, %d, to %v, %v: %d, not %d", c.name, day, n, p.m.log.Duty(), p.m.spans, got, want)
	}
	return got
}

// must holds what a call answers, and, if that is an error, that it leaves the track as it was.
func (p *pair) must(want api.Errno, c call, day int, n int64) {
	p.t.Helper()
	if got := p.do(c, day, n); got != want {
		p.t.Fatalf("%s of %d, %d, to %v, %v: %d, not %d", c.name, day, n, p.m.log.Duty(), p.m.spans, got, want)
	}
	if want != api.OK {
		p.same()
	}
}

// mustEarn holds what is earned through a day.
func (p *pair) mustEarn(want int64, day int) {
	p.t.Helper()
	if got := p.k.Earned(day); got != want {
		p.t.Fatalf("Earned through %d, of %v, %v: %d, not %d", day, p.m.log.Duty(), p.m.spans, got, want)
	}
}

// mustEarnAll holds what is earned through days, and all else against the model.
func (p *pair) mustEarnAll(want map[int]int64) {
	p.t.Helper()
	for day, n := range want {
		p.mustEarn(n, day)
	}
	p.same()
}

// mustStand holds the day of the last change, and what is allotted.
func (p *pair) mustStand(since int, allotted int64) {
	p.t.Helper()
	if p.k.Since() != since || p.k.Allotted() != allotted {
		p.t.Fatalf("of %v, %v: since %d, allotted %d, not %d, %d", p.m.log.Duty(), p.m.spans, p.k.Since(), p.k.Allotted(), since, allotted)
	}
}

// farDays are days below all, behind all and at the bounds of days.
func farDays() []int {
	return []int{math.MinInt, math.MinInt + 1, math.MinInt32, -mostDay, -1, 0, 1, 2, mostDay - 1, mostDay, mostDay + 1, 2 * mostDay, math.MaxInt32, 1 << 32, 1<<32 + 15, math.MaxInt - 1, math.MaxInt}
}

// asked are days on each side of those at which anything may change, and far ones, in their order.
func (p *pair) asked() []int {
	d := p.m.log.Duty()
	turns := append([]int{d.First, d.Last}, p.m.told...)
	for _, s := range p.m.spans {
		turns = append(turns, s.from)
	}
	l := farDays()
	for _, day := range turns {
		l = append(l, day-1, day, day+1)
	}
	slices.Sort(l)
	return slices.Compact(l)
}

// same holds all that a track tells against the model.
func (p *pair) same() {
	p.t.Helper()
	last := p.m.last()
	p.mustStand(last.from, last.base+last.rest)
	days := p.asked()
	for _, day := range days {
		p.mustEarn(p.m.earned(day), day)
		n, all := p.m.log.Through(day)
		if got := p.k.Whole(day); got != (n == all) {
			p.t.Fatalf("Whole through %d, of %v: %t, at %d of %d", day, p.m.log.Duty(), got, n, all)
		}
	}
	if d := p.k.Duty(); !alike(d, p.m.log.Duty()) {
		p.t.Fatalf("Duty: %v, not %v", d, p.m.log.Duty())
	}
	p.mustFollow(days)
}

// mustFollow holds P15.3: through days that Since isn't later than, what is earned is from 0 to what is allotted, never less through a later one, and all where the whole is done.
func (p *pair) mustFollow(days []int) {
	p.t.Helper()
	before := int64(0)
	for _, day := range days {
		if day < p.k.Since() {
			continue
		}
		n := p.k.Earned(day)
		if n < before || n > p.k.Allotted() || p.k.Whole(day) && n != p.k.Allotted() {
			p.t.Fatalf("Earned through %d, of %v, %v: %d, behind %d", day, p.m.log.Duty(), p.m.spans, n, before)
		}
		before = n
	}
}

// alike tells whether obligations are the same, of the same lines.
func alike(d, e api.Duty) bool {
	return slices.Equal(d.Lines, e.Lines) && d.Alone == e.Alone && d.Units == e.Units &&
		d.Method == e.Method && d.First == e.First && d.Last == e.Last
}

// random tells numbers from 0 on, below one, the same ones each time.
func random() func(below int) int {
	state := uint64(88172645463325252)
	return func(below int) int {
		state ^= state << 13
		state ^= state >> 7
		state ^= state << 17
		return int((state >> 11) % uint64(below))
	}
}
