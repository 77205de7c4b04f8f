package keep_test

import (
	"encoding/binary"
	"fmt"
	"math"
	"slices"
	"strings"
	"testing"

	"quitrent/api"
	"quitrent/codec"
	"quitrent/engine"
	"quitrent/fiscal"
	"quitrent/journal"
	"quitrent/keep"
	"quitrent/store"
)

// The Kinds of commands, by themselves.
const (
	sign    = 1
	bill    = 2
	tell    = 3
	onward  = 4
	afresh  = 5
	price   = 6
	closing = 7
	earned  = 8
	balance = 9
)

// The test's items: one of each way of recognizing, each worth 60 alone.
const (
	byDay   = 0
	atOnce  = 1
	percent = 2
	units   = 3
)

// weeks is an engine of so many periods of weeks: the first ones end with days 28, 56, 91, 119, 147 and 182.
func weeks(periods int) engine.Config {
	items := []api.Item{{Price: 60}, {Method: api.Point, Price: 60}, {Method: api.Milestone, Price: 60}, {Method: api.Usage, Price: 60}}
	return engine.Config{Calendar: fiscal.Calendar{Kind: fiscal.Weeks, First: 1}, Periods: periods, Items: items, Bound: 5000}
}

// months is an engine of so many periods of months.
func months(periods int) engine.Config {
	c := weeks(periods)
	c.Calendar.Kind = fiscal.Months
	return c
}

// laid tells a command's bytes, or a reply's, by chapter 8's words.
func laid(kind int, args ...int64) string {
	b := []byte{byte(kind), byte(len(args))}
	for _, n := range args {
		b = binary.AppendVarint(b, n)
	}
	return string(b)
}

// told tells a reply's bytes.
func told(r engine.Reply) string { return laid(int(r.E), r.Values...) }

// refused tells the bytes of a reply that is an error.
func refused(e api.Errno) string { return laid(int(e)) }

// list tells a list's bytes.
func list(l ...string) string {
	b := binary.AppendVarint(nil, int64(len(l)))
	for _, s := range l {
		b = append(binary.AppendVarint(b, int64(len(s))), s...)
	}
	return string(b)
}

// parsed tells the command of bytes, or that these are none.
func parsed(b string) (codec.Command, bool) {
	if len(b) < 2 || b[1] > 64 {
		return codec.Command{}, false
	}
	c := codec.Command{Kind: int(b[0])}
	left := []byte(b[2:])
	for range b[1] {
		n, many := binary.Varint(left)
		if many <= 0 {
			return codec.Command{}, false
		}
		c.Args, left = append(c.Args, n), left[many:]
	}
	return c, laid(c.Kind, c.Args...) == b
}

// parts tells the texts of a list's bytes, or that these are no list's.
func parts(s string) ([]string, bool) {
	left := []byte(s)
	many, at := binary.Varint(left)
	if at <= 0 || many < 0 || many > 1000 {
		return nil, false
	}
	left = left[at:]
	var l []string
	for range many {
		long, at := binary.Varint(left)
		if at <= 0 || long < 0 || long > int64(len(left)-at) {
			return nil, false
		}
		l, left = append(l, string(left[at:at+int(long)])), left[at+int(long):]
	}
	return l, list(l...) == s
}

// blocks tells how many blocks bytes need.
func blocks(b string) int { return (len(b) + 7 + 63) / 64 }

// model is what an engine that is kept is, by the chapter's words: an engine of its own, what it has done, and what its journal tells.
type model struct {
	e       *engine.Engine
	done    []string
	half    int // how many blocks a half has
	text    string
	records []string
}

// newModel tells what is behind a journal's text and records, in a store of so many blocks, or an error.
func newModel(c engine.Config, size int, text string, records ...string) (*model, api.Errno) {
	e, errno := engine.New(c)
	if errno != api.OK {
		return nil, errno
	}
	m := &model{e: e, half: (size - 1) / 2, text: text, records: slices.Clone(records)}
	l, ok := parts(text)
	if text != "" && !ok {
		return nil, api.ErrSum
	}
	for i, b := range slices.Concat(l, records) {
		c, ok := parsed(b)
		if !ok || m.try(b, c).E != api.OK && i < len(l) {
			return nil, api.ErrSum
		}
	}
	return m, api.OK
}

// try does a command.
func (m *model) try(b string, c codec.Command) engine.Reply {
	r := m.e.Do(c)
	if r.E == api.OK {
		m.done = append(m.done, b)
	}
	return r
}

// room tells how many blocks are left.
func (m *model) room() int {
	left := m.half - blocks(m.text)
	for _, b := range m.records {
		left -= blocks(b)
	}
	return left
}

// do does bytes.
func (m *model) do(b string) string {
	c, ok := parsed(b)
	switch {
	case !ok:
		return refused(api.ErrForm)
	case blocks(b) > m.room():
		return refused(api.ErrFull)
	}
	m.records = append(m.records, b)
	return told(m.try(b, c))
}

// snap snaps.
func (m *model) snap() api.Errno {
	text := list(m.done...)
	if len(m.done) > 1000 || len(text) > 40000 || blocks(text) > m.half {
		return api.ErrFull
	}
	m.text, m.records = text, nil
	return api.OK
}

// state tells all that is told of an engine: its ledger, and its contracts.
func state(e *engine.Engine) string {
	var b strings.Builder
	l := e.Ledger()
	fmt.Fprintln(&b, e.Calendar(), e.Periods(), l.Open(), l.Many())
	for at := range l.Many() {
		period, p, errno := l.Entry(at)
		fmt.Fprintln(&b, period, p, errno)
	}
	for number := range api.MostContracts {
		c, billed, recognized, ok := e.Contract(number)
		if !ok {
			continue
		}
		fmt.Fprintln(&b, number, billed, recognized, c.Price(), c.Day(), c.Many())
		for i := range c.Many() {
			d, _ := c.Duty(i)
			fmt.Fprintln(&b, d, c.Allotted(i))
			for day := 0; day < 200; day += 7 {
				fmt.Fprint(&b, c.Earned(i, day), " ")
			}
		}
	}
	return b.String()
}

// probes are commands by whose replies engines are told apart.
func probes() []string {
	var l []string
	for number := range int64(api.MostContracts) {
		for obligation := range int64(4) {
			l = append(l, laid(earned, number, obligation, 60))
			l = append(l, laid(balance, obligation, number, 1))
		}
	}
	for item := range int64(4) {
		for _, day := range []int64{1, 7, 50, 300} {
			l = append(l, laid(price, item, day, 61))
		}
		l = append(l, laid(sign, 31+item, 60, 0, 2, item, 1, 1000, 61, 70, 0, 3, 5000, 61, 70))
	}
	for period := range int64(5) {
		l = append(l, laid(closing, period))
	}
	for number := range int64(5) {
		for obligation := range int64(3) {
			l = append(l, laid(tell, number, obligation, 20, 1))
		}
		l = append(l, laid(bill, number, 28, 1), laid(bill, number, 29, 1), laid(onward, number, 60, 5), laid(afresh, number, 61, -5))
	}
	return append(l, laid(sign), laid(0), laid(10, 1))
}

// newStore tells a new store.
func newStore(t *testing.T, size int) *store.Store {
	t.Helper()
	s, errno := store.New(size)
	if errno != api.OK {
		t.Fatalf("no store of %d: %d", size, errno)
	}
	return s
}

// copyOf tells another store of the same blocks.
func copyOf(t *testing.T, s *store.Store) *store.Store {
	t.Helper()
	other := newStore(t, s.Blocks())
	for at := range s.Blocks() {
		b, _ := s.Read(at)
		if b != strings.Repeat("\x00", store.Size) {
			other.Write(at, b)
		}
	}
	return other
}

// look tells a store's blocks.
func look(s *store.Store) string {
	var all strings.Builder
	for at := range s.Blocks() {
		b, _ := s.Read(at)
		all.WriteString(b)
	}
	return all.String()
}

// wrote tells a store whose journal has that text, and those records.
func wrote(t *testing.T, size int, text string, records ...string) *store.Store {
	t.Helper()
	s := newStore(t, size)
	j, errno := journal.Open(s)
	if errno == api.OK && text != "" {
		errno = j.Snap(text)
	}
	for _, b := range records {
		if errno == api.OK {
			errno = j.Append(b)
		}
	}
	if errno != api.OK {
		t.Fatalf("a journal of %d, %d: %d", len(text), len(records), errno)
	}
	return s
}

// mustOpen opens what is to be opened.
func mustOpen(t *testing.T, c engine.Config, s *store.Store) *keep.Keep {
	t.Helper()
	k, errno := keep.Open(c, s)
	if k == nil || errno != api.OK {
		t.Fatalf("Open: %d", errno)
	}
	return k
}

// mustRefuse holds that a store isn't opened, and by what error.
func mustRefuse(t *testing.T, name string, c engine.Config, s *store.Store, want api.Errno) {
	t.Helper()
	if k, errno := keep.Open(c, s); k != nil || errno != want {
		t.Fatalf("%s: Open: %t, %d, not %d", name, k != nil, errno, want)
	}
}

// pair is an engine that is kept, and the model of it.
type pair struct {
	t *testing.T
	c engine.Config
	s *store.Store
	k *keep.Keep
	m *model
}

func newPair(t *testing.T, c engine.Config, size int) *pair {
	t.Helper()
	s := newStore(t, size)
	return behind(t, c, s)
}

// behind opens a store, and tells the model of what its journal tells.
func behind(t *testing.T, c engine.Config, s *store.Store) *pair {
	t.Helper()
	k := mustOpen(t, c, s)
	j, errno := journal.Open(s)
	if errno != api.OK {
		t.Fatalf("no journal: %d", errno)
	}
	m, errno := newModel(c, s.Blocks(), j.Text(), j.Records()...)
	if errno != api.OK {
		t.Fatalf("no model: %d", errno)
	}
	return &pair{t: t, c: c, s: s, k: k, m: m}
}

// do does bytes, and holds the reply.
func (p *pair) do(b string) string {
	p.t.Helper()
	got, want := p.k.Do(b), p.m.do(b)
	if got != want {
		p.t.Fatalf("Do of %q: %q, not %q", b, got, want)
	}
	return got
}

// must does a command, and holds that it is replied so, by an error and Values.
func (p *pair) must(b string, e api.Errno, values ...int64) {
	p.t.Helper()
	if got := p.do(b); got != laid(int(e), values...) {
		p.t.Fatalf("Do of %q: %q, not %d, %d", b, got, e, values)
	}
}

// snap snaps, and holds the answer.
func (p *pair) snap() api.Errno {
	p.t.Helper()
	got, want := p.k.Snap(), p.m.snap()
	if got != want {
		p.t.Fatalf("Snap: %d, not %d", got, want)
	}
	return got
}

// same holds all that is told, and what is kept.
func (p *pair) same() {
	p.t.Helper()
	mustBe(p.t, p.k, p.m)
	j, errno := journal.Open(p.s)
	if errno != api.OK || j.Text() != p.m.text || !slices.Equal(j.Records(), p.m.records) {
		p.t.Fatalf("kept: %d, %q, %q, not %q, %q", errno, j.Text(), j.Records(), p.m.text, p.m.records)
	}
}

// mustBe holds that an engine that is kept is the model.
func mustBe(t *testing.T, k *keep.Keep, m *model) {
	t.Helper()
	if got := k.Done(); !slices.Equal(got, m.done) {
		t.Fatalf("Done: %q, not %q", got, m.done)
	}
	if got := k.Room(); got != m.room() {
		t.Fatalf("Room: %d, not %d", got, m.room())
	}
	if got, want := state(k.Engine()), state(m.e); got != want {
		t.Fatalf("the engine is\n%s\nnot\n%s", got, want)
	}
}

// back opens the store again, holds that all is the same, and goes on with that.
func (p *pair) back() {
	p.t.Helper()
	writes := p.s.Writes()
	p.k = mustOpen(p.t, p.c, p.s)
	p.same()
	if p.s.Writes() != writes {
		p.t.Fatalf("opened again, it wrote %d blocks", p.s.Writes()-writes)
	}
}

// probe holds what an engine of the same store, and one that did the same, reply to all probes.
func (p *pair) probe() {
	p.t.Helper()
	k := mustOpen(p.t, p.c, p.s)
	e, _ := engine.New(p.c)
	for _, b := range p.m.done {
		c, _ := parsed(b)
		e.Do(c)
	}
	for _, b := range probes() {
		c, _ := parsed(b)
		r := k.Engine().Do(c)
		if got, want := told(r), told(e.Do(c)); got != want {
			p.t.Fatalf("probe %q: %q, not %q", b, got, want)
		}
	}
}

// random tells numbers from 0 on, below one, the same ones each time.
func random() func(below int) int {
	state := uint64(88172645463325252)
	return func(below int) int {
		state ^= state << 13
		state ^= state >> 7
		state ^= state << 17
		return int((state >> 11) % uint64(below))
	}
}

// sizes are numbers of all sizes.
func sizes() []int64 {
	l := []int64{math.MinInt64, math.MinInt64 + 1, math.MaxInt64 - 1, math.MaxInt64}
	for bit := range 63 {
		n := int64(1) << bit
		l = append(l, n-1, n, -n, -n-1)
	}
	return l
}
