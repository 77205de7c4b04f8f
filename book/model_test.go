package book_test

import (
	"math"
	"math/big"
	"slices"
	"testing"

	"quitrent/api"
	"quitrent/book"
)

const most = math.MaxInt64

// model is a book by the chapter's words: it keeps what was set, in the order in which it came, and searches all of it each time.
type model struct {
	items []api.Item
	sets  []told
}

// told is a price that was set.
type told struct {
	item, day int
	price     int64
}

func (m *model) has(item int) bool {
	return item >= 0 && item < len(m.items)
}

func (m *model) set(item, day int, price int64) api.Errno {
	if !m.has(item) {
		return api.ErrName
	}
	if day < 1 || day > 1000000 || price < 1 {
		return api.ErrArg
	}
	many := 0
	for _, s := range m.sets {
		if s.item == item && s.day == day {
			return api.ErrTwice
		}
		if s.item == item {
			many++
		}
	}
	if many >= 100 {
		return api.ErrFull
	}
	m.sets = append(m.sets, told{item, day, price})
	return api.OK
}

func (m *model) price(item, day int) (int64, api.Errno) {
	if !m.has(item) {
		return 0, api.ErrName
	}
	if day < 0 {
		return 0, api.ErrArg
	}
	last := told{day: 0, price: m.items[item].Price}
	for _, s := range m.sets {
		if s.item == item && s.day <= day && s.day > last.day {
			last = s
		}
	}
	return last.price, api.OK
}

// lineMayBe tells whether a line may be.
func (m *model) lineMayBe(x api.Line) bool {
	switch {
	case !m.has(x.Item), x.Units < 1, x.Charge < 0, x.First < 1, x.Last > 1000000, x.First > x.Last:
		return false
	}
	return true
}

func (m *model) check(l []api.Line) api.Errno {
	if len(l) > 12 {
		return api.ErrFull
	}
	if len(l) == 0 || slices.ContainsFunc(l, func(x api.Line) bool { return !m.lineMayBe(x) }) {
		return api.ErrArg
	}
	return api.OK
}

func (m *model) alone(x api.Line, day int) (int64, api.Errno) {
	if !m.lineMayBe(x) || day < 0 {
		return 0, api.ErrArg
	}
	price, _ := m.price(x.Item, day)
	product := new(big.Int).Mul(big.NewInt(price), big.NewInt(x.Units))
	if !product.IsInt64() {
		return 0, api.ErrOver
	}
	return product.Int64(), api.OK
}

// pair is a book and its model: each call is done to both, and the answers are held against each other.
type pair struct {
	t *testing.T
	b *book.Book
	m *model
}

// newPair makes a book of items that may be.
func newPair(t *testing.T, items ...api.Item) *pair {
	t.Helper()
	b, errno := book.New(items)
	if b == nil || errno != api.OK {
		t.Fatalf("New of %v: %v, %d", items, b, errno)
	}
	return &pair{t, b, &model{items: slices.Clone(items)}}
}

// priced are items of these prices.
func priced(prices ...int64) []api.Item {
	var l []api.Item
	for i, price := range prices {
		l = append(l, api.Item{Tag: i % 3, Group: i * 7 % 100, Method: i % 4, Price: price})
	}
	return l
}

func (p *pair) set(item, day int, price int64) api.Errno {
	p.t.Helper()
	got, want := p.b.Set(item, day, price), p.m.set(item, day, price)
	if got != want {
		p.t.Fatalf("Set of %d, %d, %d: %d, not %d", item, day, price, got, want)
	}
	return got
}

// must holds what a call answered.
func (p *pair) must(want, got api.Errno) {
	p.t.Helper()
	if got != want {
		p.t.Fatalf("answered %d, not %d", got, want)
	}
}

func (p *pair) check(l ...api.Line) api.Errno {
	p.t.Helper()
	got, want := p.b.Check(l), p.m.check(l)
	if got != want {
		p.t.Fatalf("Check of %v: %d, not %d", l, got, want)
	}
	return got
}

func (p *pair) alone(x api.Line, day int) api.Errno {
	p.t.Helper()
	got, errno := p.b.Alone(x, day)
	want, wantErrno := p.m.alone(x, day)
	if got != want || errno != wantErrno {
		p.t.Fatalf("Alone of %v, %d: %d, %d, not %d, %d", x, day, got, errno, want, wantErrno)
	}
	return errno
}

// same holds all that is told: each item and those beside, and its prices on each side of each day that was set.
func (p *pair) same() {
	p.t.Helper()
	days := []int{math.MinInt, -1, 0, 1, api.MostDay - 1, api.MostDay, api.MostDay + 1, math.MaxInt}
	for _, s := range p.m.sets {
		days = append(days, s.day-1, s.day, s.day+1)
	}
	for item := -1; item <= len(p.m.items); item++ {
		p.sameItem(item)
		for _, day := range days {
			p.samePrice(item, day)
		}
	}
}

func (p *pair) sameItem(item int) {
	p.t.Helper()
	var want api.Item
	if p.m.has(item) {
		want = p.m.items[item]
	}
	if got, ok := p.b.Item(item); got != want || ok != p.m.has(item) {
		p.t.Fatalf("Item of %d: %v, %t, not %v", item, got, ok, want)
	}
}

func (p *pair) samePrice(item, day int) {
	p.t.Helper()
	got, errno := p.b.Price(item, day)
	want, wantErrno := p.m.price(item, day)
	if got != want || errno != wantErrno {
		p.t.Fatalf("Price of %d, %d: %d, %d, not %d, %d", item, day, got, errno, want, wantErrno)
	}
}

// random tells numbers from 0 on, below one, the same ones each time.
func random() func(below int) int {
	state := uint64(88172645463325252)
	return func(below int) int {
		state ^= state << 13
		state ^= state >> 7
		state ^= state << 17
		return int((state >> 11) % uint64(below))
	}
}
