package engine_test

import (
	"math/big"

	"quitrent/api"
)

// The ways in which obligations are recognized, told short.
const (
	ratable   = 0
	point     = 1
	milestone = 2
	usage     = 3
)

// The ways in which lines become obligations, told short.
const (
	distinct = 0
	bundle   = 1
	series   = 2
)

// exact tells a sum of any size.
func exact(l ...int64) *big.Int {
	sum := new(big.Int)
	for _, n := range l {
		sum.Add(sum, big.NewInt(n))
	}
	return sum
}

// times tells a product of any size.
func times(a, b int64) *big.Int { return new(big.Int).Mul(big.NewInt(a), big.NewInt(b)) }

// event is what was told.
type event struct {
	day int
	n   int64
}

// span is one of an obligation's.
type span struct {
	from, origin int
	base, rest   int64
}

// owed is an obligation by the chapters' words.
type owed struct {
	duty  api.Duty
	told  []event
	spans []span
}

// through tells how much is done through a day, and of how much.
func (o *owed) through(day int) (int64, int64) {
	d := o.duty
	switch d.Method {
	case ratable:
		return int64(max(0, min(day, d.Last)-d.First+1)), int64(d.Last - d.First + 1)
	case point:
		if day >= d.First {
			return 1, 1
		}
		return 0, 1
	case milestone:
		greatest := int64(0)
		for _, x := range o.told {
			if x.day <= day {
				greatest = max(greatest, x.n)
			}
		}
		return greatest, whole
	}
	all := new(big.Int)
	for _, x := range o.told {
		if x.day <= day {
			all.Add(all, exact(x.n))
		}
	}
	if all.Cmp(exact(d.Units)) > 0 {
		all = exact(d.Units)
	}
	return all.Int64(), d.Units
}

// tell tells something of a day.
func (o *owed) tell(day int, n int64) api.Errno {
	byPercents := o.duty.Method == milestone
	if !byPercents && o.duty.Method != usage || day < 1 || day > mostDay || n < 1 || byPercents && n > whole {
		return api.ErrArg
	}
	all, twice, turned := exact(n), false, false
	for _, x := range o.told {
		all.Add(all, exact(x.n))
		twice = twice || x.day == day
		turned = turned || x.day < day && x.n > n || x.day > day && x.n < n
	}
	switch {
	case byPercents && twice:
		return api.ErrTwice
	case byPercents && turned:
		return api.ErrOrder
	case len(o.told) >= mostTold:
		return api.ErrFull
	case !byPercents && !all.IsInt64():
		return api.ErrOver
	}
	o.told = append(o.told, event{day, n})
	return api.OK
}

func (o *owed) whole(day int) bool {
	n, all := o.through(day)
	return n == all
}

func (o *owed) earned(day int) int64 {
	s := o.spans[0]
	for _, x := range o.spans {
		if x.from <= day {
			s = x
		}
	}
	ahead, _ := o.through(s.origin)
	n, all := o.through(day)
	sum := exact(s.rest)
	if all != ahead {
		sum = times(s.rest, n-ahead)
		sum.Div(sum, exact(all-ahead))
	}
	return sum.Add(sum, exact(s.base)).Int64()
}

func (o *owed) allotted() int64 {
	s := o.spans[len(o.spans)-1]
	return s.base + s.rest
}

// deal is a contract by the chapters' words, with its sums.
type deal struct {
	owed               []*owed
	price, dearest     int64 // dearest is what the price was at most
	day, changes       int
	billed, recognized int64
	daysLast           int // the last day of all obligations, if all are by days; else 0
}

// may is what may come.
type may struct {
	amount int64
	chance int
}

// newDeal makes a contract, or tells why there can be none.
func (m *model) newDeal(day int, come []may, lines []api.Line) (*deal, api.Errno) {
	if day < 1 || day > mostDay {
		return nil, api.ErrArg
	}
	if errno := m.check(lines); errno != api.OK {
		return nil, errno
	}
	d := &deal{day: day}
	charged, alones := new(big.Int), new(big.Int)
	for _, group := range m.together(lines) {
		alone, units := new(big.Int), new(big.Int)
		duty := api.Duty{Lines: group, Method: m.items[lines[group[0]].Item].Method, First: mostDay, Last: 1}
		for _, at := range group {
			x := lines[at]
			alone.Add(alone, times(m.price(x.Item, day), x.Units))
			units.Add(units, exact(x.Units))
			duty.First, duty.Last = min(duty.First, x.First), max(duty.Last, x.Last)
			charged.Add(charged, exact(x.Charge))
		}
		if !alone.IsInt64() || !units.IsInt64() {
			return nil, api.ErrOver
		}
		duty.Alone, duty.Units = alone.Int64(), units.Int64()
		alones.Add(alones, alone)
		d.owed = append(d.owed, &owed{duty: duty})
	}
	if !charged.IsInt64() {
		return nil, api.ErrOver
	}
	price, errno := likely(charged, come, m.bound)
	if errno != api.OK {
		return nil, errno
	}
	if !alones.IsInt64() {
		return nil, api.ErrOver
	}
	d.price, d.dearest = price, price
	for i, n := range shares(price, d.alones()) {
		d.owed[i].spans = []span{{rest: n}}
	}
	d.daysLast = byDays(d.owed)
	return d, api.OK
}

// byDays tells the last day of obligations that are all by days.
func byDays(l []*owed) int {
	last := 0
	for _, o := range l {
		if o.duty.Method != ratable {
			return 0
		}
		last = max(last, o.duty.Last)
	}
	return last
}

// check tells whether lines may be.
func (m *model) check(lines []api.Line) api.Errno {
	if len(lines) > mostLines {
		return api.ErrFull
	}
	for _, x := range lines {
		if x.Item < 0 || x.Item >= len(m.items) || x.Units < 1 || x.Charge < 0 || x.First < 1 || x.First > x.Last || x.Last > mostDay {
			return api.ErrArg
		}
	}
	if len(lines) == 0 {
		return api.ErrArg
	}
	return api.OK
}

// together tells the places of lines that belong together.
func (m *model) together(lines []api.Line) [][]int {
	var groups [][]int
	for at, x := range lines {
		found := false
		for i, group := range groups {
			y := lines[group[0]]
			one, other := m.items[x.Item], m.items[y.Item]
			if one.Tag == bundle && other.Tag == bundle && one.Group == other.Group || one.Tag == series && x.Item == y.Item {
				groups[i] = append(group, at)
				found = true
				break
			}
		}
		if !found {
			groups = append(groups, []int{at})
		}
	}
	return groups
}

// likely tells the price of what is fixed, and of what is sure enough.
func likely(fixed *big.Int, come []may, bound int) (int64, api.Errno) {
	sum := new(big.Int).Set(fixed)
	for _, x := range come {
		if x.chance < 0 || x.chance > whole {
			return 0, api.ErrArg
		}
		if x.amount > 0 && x.chance >= bound || x.amount < 0 && x.chance > whole-bound {
			sum.Add(sum, exact(x.amount))
		}
	}
	switch {
	case !sum.IsInt64():
		return 0, api.ErrOver
	case sum.Sign() < 0:
		return 0, api.ErrArg
	}
	return sum.Int64(), api.OK
}

// shares tells the portions of a total, 0 or more, by weights, one of which is above 0.
func shares(total int64, weights []int64) []int64 {
	all := exact(weights...)
	got := make([]int64, len(weights))
	rests := make([]*big.Int, len(weights))
	missing := total
	for i, weight := range weights {
		part, rest := new(big.Int).DivMod(times(total, weight), all, new(big.Int))
		got[i], rests[i] = part.Int64(), rest
		missing -= got[i]
	}
	for range missing {
		next := 0
		for i, rest := range rests {
			if rest.Cmp(rests[next]) > 0 {
				next = i
			}
		}
		got[next]++
		rests[next] = big.NewInt(-1)
	}
	return got
}

func (d *deal) alones() []int64 {
	var l []int64
	for _, o := range d.owed {
		l = append(l, o.duty.Alone)
	}
	return l
}

// all tells what all earned through a day.
func (d *deal) all(day int) int64 {
	sum := new(big.Int)
	for _, o := range d.owed {
		sum.Add(sum, exact(o.earned(day)))
	}
	return sum.Int64()
}

// refused tells why there can be no change of either kind, or that there can.
func (d *deal) refused(day int, more int64) api.Errno {
	switch {
	case day < 1, day > mostDay:
		return api.ErrArg
	case day < d.day:
		return api.ErrOrder
	case d.changes >= mostChanges:
		return api.ErrFull
	case !exact(d.price, more).IsInt64():
		return api.ErrOver
	}
	return api.OK
}

func (d *deal) changed(day int, more int64) api.Errno {
	d.price += more
	d.dearest = max(d.dearest, d.price)
	d.day = day
	d.changes++
	return api.OK
}

func (d *deal) onward(day int, more int64) api.Errno {
	if errno := d.refused(day, more); errno != api.OK {
		return errno
	}
	left := new(big.Int).Sub(exact(d.price, more), exact(d.all(day)))
	weights, open := d.alones(), false
	for i, o := range d.owed {
		if o.whole(day) {
			weights[i] = 0
		} else {
			open = true
		}
	}
	if left.Sign() < 0 || !open {
		return api.ErrArg
	}
	for i, n := range shares(left.Int64(), weights) {
		o := d.owed[i]
		o.spans = append(o.spans, span{day, day, o.earned(day), n})
	}
	return d.changed(day, more)
}

func (d *deal) afresh(day int, more int64) api.Errno {
	if errno := d.refused(day, more); errno != api.OK {
		return errno
	}
	if d.price+more < 0 {
		return api.ErrArg
	}
	for i, n := range shares(d.price+more, d.alones()) {
		d.owed[i].spans = append(d.owed[i].spans, span{from: day, rest: n})
	}
	return d.changed(day, more)
}
