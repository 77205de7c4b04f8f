package duty_test

import (
	"math"
	"math/big"
	"reflect"
	"slices"
	"testing"

	"quitrent/api"
	"quitrent/book"
	"quitrent/duty"
)

const (
	most  = math.MaxInt64
	least = math.MinInt64
)

// told is a price that was set.
type told struct {
	item, day int
	price     int64
}

// shop is a book, and all that it was told: its answers are held against the chapter's words.
type shop struct {
	t     *testing.T
	b     *book.Book
	items []api.Item
	sets  []told
}

// newShop makes a book of items that may be.
func newShop(t *testing.T, items ...api.Item) *shop {
	t.Helper()
	b, errno := book.New(items)
	if errno != api.OK {
		t.Fatalf("New of %v: %d", items, errno)
	}
	return &shop{t: t, b: b, items: items}
}

func (s *shop) set(item, day int, price int64) {
	s.t.Helper()
	if errno := s.b.Set(item, day, price); errno != api.OK {
		s.t.Fatalf("Set of %d, %d, %d: %d", item, day, price, errno)
	}
	s.sets = append(s.sets, told{item, day, price})
}

// price tells what an item costs at a day.
func (s *shop) price(item, day int) int64 {
	last := told{price: s.items[item].Price}
	for _, x := range s.sets {
		if x.item == item && x.day <= day && x.day > last.day {
			last = x
		}
	}
	return last.price
}

// mayBe tells whether a line may be.
func (s *shop) mayBe(x api.Line) bool {
	switch {
	case x.Item < 0, x.Item >= len(s.items), x.Units < 1, x.Charge < 0, x.First < 1, x.Last > 1000000, x.First > x.Last:
		return false
	}
	return true
}

// belong tells whether two of the lines belong together.
func (s *shop) belong(lines []api.Line, i, j int) bool {
	one, other := s.items[lines[i].Item], s.items[lines[j].Item]
	switch {
	case i == j:
		return true
	case one.Tag == api.Bundle && other.Tag == api.Bundle:
		return one.Group == other.Group
	case one.Tag == api.Series:
		return lines[i].Item == lines[j].Item
	}
	return false
}

// duty tells the obligation that begins with a line; false, if one ahead belongs to it.
func (s *shop) duty(lines []api.Line, head, day int) (api.Duty, bool, api.Errno) {
	alone, units := new(big.Int), new(big.Int)
	d := api.Duty{Method: s.items[lines[head].Item].Method, First: math.MaxInt, Last: math.MinInt}
	for i, x := range lines {
		if !s.belong(lines, head, i) {
			continue
		}
		if i < head {
			return api.Duty{}, false, api.OK
		}
		d.Lines = append(d.Lines, i)
		alone.Add(alone, new(big.Int).Mul(big.NewInt(s.price(x.Item, day)), big.NewInt(x.Units)))
		units.Add(units, big.NewInt(x.Units))
		if x.First < d.First {
			d.First = x.First
		}
		if x.Last > d.Last {
			d.Last = x.Last
		}
	}
	if !alone.IsInt64() || !units.IsInt64() {
		return api.Duty{}, true, api.ErrOver
	}
	d.Alone, d.Units = alone.Int64(), units.Int64()
	return d, true, api.OK
}

// want tells what Find is to answer.
func (s *shop) want(lines []api.Line, day int) ([]api.Duty, api.Errno) {
	if day < 0 {
		return nil, api.ErrArg
	}
	if len(lines) > 12 {
		return nil, api.ErrFull
	}
	if len(lines) == 0 || slices.ContainsFunc(lines, func(x api.Line) bool { return !s.mayBe(x) }) {
		return nil, api.ErrArg
	}
	var duties []api.Duty
	for head := range lines {
		d, own, errno := s.duty(lines, head, day)
		if errno != api.OK {
			return nil, errno
		}
		if own {
			duties = append(duties, d)
		}
	}
	return duties, api.OK
}

// find holds Find, and tells what it answered.
func (s *shop) find(day int, lines ...api.Line) ([]api.Duty, api.Errno) {
	s.t.Helper()
	before := slices.Clone(lines)
	got, errno := duty.Find(s.b, lines, day)
	want, wantErrno := s.want(before, day)
	if errno != wantErrno || len(got) != len(want) || len(want) > 0 && !reflect.DeepEqual(got, want) {
		s.t.Fatalf("Find of %v, at %d: %v, %d, not %v, %d", before, day, got, errno, want, wantErrno)
	}
	if !slices.Equal(lines, before) {
		s.t.Fatalf("Find changed %v to %v", before, lines)
	}
	return got, errno
}

// must holds what Find answers: an error, and nothing beside it.
func (s *shop) must(want api.Errno, day int, lines ...api.Line) {
	s.t.Helper()
	if got, errno := s.find(day, lines...); errno != want || errno != api.OK && len(got) > 0 {
		s.t.Fatalf("Find of %v, at %d: %v, %d, not %d", lines, day, got, errno, want)
	}
}

// groups holds which lines Find puts together, and in which order.
func (s *shop) groups(want [][]int, items ...int) {
	s.t.Helper()
	got, errno := s.find(0, linesOf(items...)...)
	var places [][]int
	for _, d := range got {
		places = append(places, d.Lines)
	}
	if errno != api.OK || !reflect.DeepEqual(places, want) {
		s.t.Fatalf("Find of items %v: %v, %d, not %v", items, places, errno, want)
	}
}

// linesOf are lines of these items, each with units, a charge and days of its own.
func linesOf(items ...int) []api.Line {
	var l []api.Line
	for i, item := range items {
		first := 1 + i*i*7%40
		l = append(l, api.Line{Item: item, Units: 1 << i, Charge: int64(3 * i), First: first, Last: first + (i*11+5)%30})
	}
	return l
}

// random tells numbers from 0 on, below one, the same ones each time.
func random() func(below int) int {
	state := uint64(88172645463325252)
	return func(below int) int {
		state ^= state << 13
		state ^= state >> 7
		state ^= state << 17
		return int((state >> 11) % uint64(below))
	}
}
