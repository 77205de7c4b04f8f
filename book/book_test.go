package book_test

import (
	"math"
	"slices"
	"testing"

	"quitrent/api"
	"quitrent/book"
)

// plain are so many items that may be.
func plain(many int) []api.Item {
	return priced(slices.Repeat([]int64{5}, many)...)
}

// refused holds that New refuses items.
func refused(t *testing.T, want api.Errno, items []api.Item) {
	t.Helper()
	if b, errno := book.New(items); b != nil || errno != want {
		t.Fatalf("New of %v: %v, %d, not %d", items, b, errno, want)
	}
}

// P10.1: New of no item, of each number up to MostItems, and of more; too many of which one may not be.
func TestHowManyItems(t *testing.T) {
	for many := range 41 {
		p := newPair(t, plain(many)...)
		p.same()
		p.must(api.ErrName, p.set(many, 1, 1))
	}
	if b, errno := book.New([]api.Item{}); b == nil || errno != api.OK {
		t.Fatalf("New of an empty list: %v, %d", b, errno)
	}
	for _, many := range []int{41, 42, 1000} {
		refused(t, api.ErrFull, plain(many))
		for _, place := range []int{0, 39, 40, many - 1} {
			items := plain(many)
			items[place] = api.Item{}
			refused(t, api.ErrFull, items)
		}
	}
	refused(t, api.ErrFull, make([]api.Item, 41))
	refused(t, api.ErrArg, make([]api.Item, 40))
}

// P10.1: items whose Tag, Group, Method and Price are within their bounds, and beyond, at each place of a list.
func TestWhichItems(t *testing.T) {
	good := api.Item{Tag: api.Bundle, Group: 50, Method: api.Milestone, Price: 7}
	fields := []struct {
		lay      func(x *api.Item, n int)
		in, away []int
	}{
		{func(x *api.Item, n int) { x.Tag = n }, []int{0, 1, 2}, []int{math.MinInt, -1, 3, 4, math.MaxInt}},
		{func(x *api.Item, n int) { x.Group = n }, []int{0, 1, 98, 99}, []int{math.MinInt, -1, 100, 101, math.MaxInt}},
		{func(x *api.Item, n int) { x.Method = n }, []int{0, 1, 2, 3}, []int{math.MinInt, -1, 4, 5, math.MaxInt}},
		{func(x *api.Item, n int) { x.Price = int64(n) }, []int{1, 2, most - 1, most}, []int{math.MinInt, -1, 0}},
	}
	for _, field := range fields {
		for place := range 3 {
			items := []api.Item{good, good, good}
			for _, n := range field.in {
				field.lay(&items[place], n)
				newPair(t, items...).same()
			}
			for _, n := range field.away {
				field.lay(&items[place], n)
				refused(t, api.ErrArg, items)
			}
		}
	}
}

// P10.1: each Tag with each Method, and a Group, whatever the Tag.
func TestAllKinds(t *testing.T) {
	var items []api.Item
	for tag := range 3 {
		for method := range 4 {
			for _, group := range []int{0, 50, 99} {
				items = append(items, api.Item{Tag: tag, Group: group, Method: method, Price: int64(1 + len(items))})
			}
		}
	}
	newPair(t, items...).same()
	for tag := range 3 {
		refused(t, api.ErrArg, []api.Item{{Tag: tag, Group: 100, Price: 1}})
	}
}

// P10.1: Item of those that there are, and of those beside; what was set changes none.
func TestItem(t *testing.T) {
	items := priced(100, 1, most)
	p := newPair(t, items...)
	p.must(api.OK, p.set(1, 1, 9))
	for i, want := range items {
		if x, ok := p.b.Item(i); x != want || !ok {
			t.Fatalf("Item of %d: %v, %t", i, x, ok)
		}
	}
	for _, i := range []int{math.MinInt, -2, -1, 3, 4, 40, math.MaxInt} {
		if x, ok := p.b.Item(i); x != (api.Item{}) || ok {
			t.Fatalf("Item of %d: %v, %t", i, x, ok)
		}
	}
}

// R3: a book shares nothing with the list that New was given, however much room that has, nor with another book.
func TestSharesNothing(t *testing.T) {
	room := append(make([]api.Item, 0, 8), priced(10, 20, 30)...)
	before := slices.Clone(room[:8])
	p := newPair(t, room...)
	q := newPair(t, room...)
	p.must(api.OK, p.set(0, 5, 11))
	p.must(api.OK, p.set(2, 1, 31))
	if !slices.Equal(room[:8], before) {
		t.Fatal("the list that New was given changed")
	}
	q.same()
	for i := range room {
		room[i] = api.Item{Tag: 1, Group: 2, Method: 3, Price: 4}
	}
	p.same()
	q.same()
	q.must(api.OK, q.set(0, 4, 12))
	p.same()
	q.same()
}
