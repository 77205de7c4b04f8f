package keep_test

import (
	"slices"
	"strings"
	"testing"

	"quitrent/api"
	"quitrent/engine"
	"quitrent/journal"
	"quitrent/keep"
	"quitrent/store"
)

// tears are how many bytes of the block in flight are written.
var tears = []int{-1, 0, 1, 2, 6, 7, 8, 31, 32, 33, 62, 63, 64, 65}

// move is bytes that are done, or a snap.
type move struct {
	snap bool
	b    string
}

// long are moves of all kinds, answered and refused.
func long() []move {
	var l []move
	do := func(all ...string) {
		for _, b := range all {
			l = append(l, move{b: b})
		}
	}
	do(laid(bill, 0, 28, 5), first()[0], "", first()[1], laid(closing, 1))
	l = append(l, move{snap: true})
	do(first()[2:]...)
	do(laid(afresh, 39, 1, 5), bytesOf(3), "x")
	l = append(l, move{snap: true}, move{snap: true})
	do(laid(sign, 1, 29, 2, 10, 5000, -20, 4999, 4, byDay, 1, 100, 29, 200, atOnce, 2, 80, 60, 60, percent, 3, 50, 30, 90, units, 7, 41, 1, 300))
	do(laid(bill, 1, 40, 1000), laid(tell, 1, 2, 50, 3000), laid(tell, 1, 3, 51, 6), laid(closing, 1), laid(closing, 1), laid(onward, 1, 58, -44))
	do(laid(balance, 2, 1, 1), laid(balance, 1, 1, 1), bytesOf(5), laid(price, units, 58, 1))
	l = append(l, move{snap: true})
	do(laid(sign, 2, 58, 0, 2, units, 1, 1, 1, 2, percent, 2, 2, 1, 2), laid(bill, 2, 57, 3), laid(closing, 2), laid(closing, 3), laid(closing, 4))
	return l
}

// play does a move, and tells what was answered.
func play(k *keep.Keep, x move) string {
	if x.snap {
		return refused(k.Snap())
	}
	return k.Do(x.b)
}

// play does a move of the model.
func (m *model) play(x move) string {
	if x.snap {
		return refused(m.snap())
	}
	return m.do(x.b)
}

// kept is what is kept of an engine, and what it is.
type kept struct {
	text    string
	records []string
	done    []string
	room    int
	state   string
}

// keeping tells what is kept of the model.
func (m *model) keeping() kept {
	return kept{m.text, slices.Clone(m.records), slices.Clone(m.done), m.room(), state(m.e)}
}

// is tells whether an engine that is kept, and what its store has, are that.
func (x kept) is(t *testing.T, k *keep.Keep, s *store.Store) bool {
	t.Helper()
	j, errno := journal.Open(s)
	if errno != api.OK {
		t.Fatalf("no journal: %d", errno)
	}
	return j.Text() == x.text && slices.Equal(j.Records(), x.records) && slices.Equal(k.Done(), x.done) && k.Room() == x.room && state(k.Engine()) == x.state
}

// course is moves, what is answered to each, and what is kept ahead of each and at the end.
type course struct {
	c      engine.Config
	size   int
	moves  []move
	answer []string
	ahead  []kept
}

func newCourse(t *testing.T, c engine.Config, size int, moves []move) *course {
	t.Helper()
	m, errno := newModel(c, size, "")
	if errno != api.OK {
		t.Fatalf("no model: %d", errno)
	}
	x := &course{c: c, size: size, moves: moves, ahead: []kept{m.keeping()}}
	for _, y := range moves {
		x.answer = append(x.answer, m.play(y))
		x.ahead = append(x.ahead, m.keeping())
	}
	return x
}

// run does moves from one on, and holds what is answered, up to the first one that has no power; it tells that one.
func (x *course) run(t *testing.T, k *keep.Keep, from int) int {
	t.Helper()
	for at := from; at < len(x.moves); at++ {
		got := play(k, x.moves[at])
		if got == refused(api.ErrDown) {
			return at
		}
		if got != x.answer[at] {
			t.Fatalf("move %d: %q, not %q", at, got, x.answer[at])
		}
	}
	return len(x.moves)
}

// mustBeDown holds that all later calls are ErrDown, and that nothing is done by them, also as there is power again.
func (x *course) mustBeDown(t *testing.T, k *keep.Keep, s *store.Store, at int) {
	t.Helper()
	was, is := look(s), x.ahead[at]
	for range 2 {
		for _, y := range x.moves {
			want := refused(api.ErrDown)
			if _, ok := parsed(y.b); !ok && !y.snap {
				want = refused(api.ErrForm)
			}
			if got := play(k, y); got != want {
				t.Fatalf("without power: %q, not %q", got, want)
			}
		}
		if look(s) != was || !slices.Equal(k.Done(), is.done) || k.Room() != is.room || state(k.Engine()) != is.state {
			t.Fatalf("without power, behind move %d, something was done", at)
		}
		s.Restart()
	}
}

// back opens a store behind a crash at a move, as often as one likes, and holds that it is what it was ahead of that move, or behind it; it tells which move is next.
func (x *course) back(t *testing.T, s *store.Store, at int) (*keep.Keep, int) {
	t.Helper()
	k := mustOpen(t, x.c, s)
	next := at
	if !x.ahead[at].is(t, k, s) {
		next = at + 1
	}
	was := look(s)
	for range 2 {
		if !x.ahead[next].is(t, k, s) || look(s) != was {
			t.Fatalf("behind a crash at move %d: %q", at, k.Done())
		}
		k = mustOpen(t, x.c, s)
	}
	return k, next
}

// end holds what is kept behind all moves.
func (x *course) end(t *testing.T, k *keep.Keep, s *store.Store) {
	t.Helper()
	if at := len(x.moves); !x.ahead[at].is(t, k, s) || !x.ahead[at].is(t, mustOpen(t, x.c, s), s) {
		t.Fatalf("at the end: %q", k.Done())
	}
}

// writes tells how many writes the course takes.
func (x *course) writes(t *testing.T) int {
	t.Helper()
	s := newStore(t, x.size)
	k := mustOpen(t, x.c, s)
	was := s.Writes()
	if x.run(t, k, 0) != len(x.moves) {
		t.Fatal("there is power")
	}
	x.end(t, k, s)
	return s.Writes() - was
}

// crash lets the power go at a write, behind so many bytes of it, and goes on behind a restart.
func (x *course) crash(t *testing.T, at, torn int) {
	t.Helper()
	s := newStore(t, x.size)
	k := mustOpen(t, x.c, s)
	s.Fuse(at, torn)
	gone := x.run(t, k, 0)
	if gone == len(x.moves) {
		t.Fatalf("the power didn't go at write %d", at)
	}
	x.mustBeDown(t, k, s, gone)
	k, next := x.back(t, s, gone)
	if x.run(t, k, next) != len(x.moves) {
		t.Fatal("there is power")
	}
	x.end(t, k, s)
}

// P20.3, W4: a crash at every write of a long course, whichever beginning of the block is kept; in a great store, and in small ones that are full again and again.
func TestCrashAtEachWrite(t *testing.T) {
	for _, size := range []int{101, 25, 17, 9} {
		x := newCourse(t, weeks(4), size, long())
		for at := range x.writes(t) {
			for _, torn := range tears {
				x.crash(t, at, torn)
			}
		}
	}
}

// P20.3, W4: each beginning of the block, of a short course.
func TestCrashAtEachByte(t *testing.T) {
	moves := append(long()[:6:6], move{b: first()[2]}, move{snap: true}, move{b: laid(closing, 0)})
	x := newCourse(t, weeks(4), 25, moves)
	for at := range x.writes(t) {
		for torn := range 66 {
			x.crash(t, at, torn)
		}
	}
}

// P20.3, W4: a crash at each write of each Do and each Snap, behind a restart ahead of it, and just what is kept then: all of it or nothing.
func TestCrashAtEachMove(t *testing.T) {
	x := newCourse(t, weeks(4), 45, long())
	s := newStore(t, x.size)
	mustOpen(t, x.c, s)
	for at, y := range x.moves {
		behind := copyOf(t, s)
		was := behind.Writes()
		if got := play(mustOpen(t, x.c, behind), y); got != x.answer[at] {
			t.Fatalf("move %d: %q", at, got)
		}
		for many := range behind.Writes() - was {
			for _, torn := range tears {
				gone := copyOf(t, s)
				k := mustOpen(t, x.c, gone)
				gone.Fuse(many, torn)
				if got := play(k, y); got != refused(api.ErrDown) {
					t.Fatalf("move %d, without power behind %d writes: %q", at, many, got)
				}
				x.mustBeDown(t, k, gone, at)
				whole := many == behind.Writes()-was-1 && torn > 0
				if _, next := x.back(t, gone, at); x.ahead[at].room != x.ahead[at+1].room && (next == at+1) != whole {
					t.Fatalf("move %d, without power behind %d writes and %d bytes: next is %d", at, many, torn, next)
				}
			}
		}
		s = behind
	}
}

// P20.1, P20.3: a fuse that burns as a new store is opened: ErrDown, again and again, but where its text came whole; then it is opened, and nothing is done.
func TestCrashAsItIsOpened(t *testing.T) {
	for _, torn := range tears {
		for _, again := range tears {
			for n := range 4 {
				s := newStore(t, 25)
				s.Fuse(n%2, torn)
				mustRefuse(t, "a fuse", weeks(4), s, api.ErrDown)
				if whole := n%2 == 1 && torn > 0; !whole {
					mustRefuse(t, "no power", weeks(4), s, api.ErrDown)
					s.Restart()
					s.Fuse(n/2, again)
					mustRefuse(t, "another fuse", weeks(4), s, api.ErrDown)
				}
				s.Restart()
				p := behind(t, weeks(4), s)
				if p.k.Done() != nil || p.k.Room() != 11 {
					t.Fatalf("opened behind crashes: %q, %d", p.k.Done(), p.k.Room())
				}
				p.same()
				for _, b := range first() {
					p.do(b)
				}
				p.back()
			}
		}
	}
}

// P20.3, W4: what comes back writes nothing, so no fuse burns as it does, and none of its writes is in the way of the next ones.
func TestFuseAsItComesBack(t *testing.T) {
	x := newCourse(t, weeks(4), 25, long())
	for at := range x.writes(t) {
		s := newStore(t, x.size)
		k := mustOpen(t, x.c, s)
		s.Fuse(at, 40)
		gone := x.run(t, k, 0)
		s.Restart()
		s.Fuse(0, 40)
		k, next := x.back(t, s, gone)
		want := refused(api.ErrDown)
		if next == len(x.moves) {
			continue
		}
		if _, ok := parsed(x.moves[next].b); !ok && !x.moves[next].snap || x.answer[next] == refused(api.ErrFull) {
			want = x.answer[next]
		}
		if got := play(k, x.moves[next]); got != want {
			t.Fatalf("move %d: %q, not %q", next, got, want)
		}
		gone = x.run(t, k, next)
		s.Restart()
		k, next = x.back(t, s, gone)
		if x.run(t, k, next) != len(x.moves) {
			t.Fatal("there is power")
		}
		x.end(t, k, s)
	}
}

// P20.3, W4: crashes one behind the other: so many writes, a restart, so many writes, until the end.
func TestCrashAgainAndAgain(t *testing.T) {
	for _, size := range []int{101, 25} {
		x := newCourse(t, weeks(4), size, long())
		for many := 2; many < 40; many++ {
			for _, torn := range tears {
				s := newStore(t, size)
				k, next := mustOpen(t, x.c, s), 0
				for grown := many; next < len(x.moves); grown++ {
					s.Fuse(grown, torn)
					gone := x.run(t, k, next)
					s.Restart()
					if gone == len(x.moves) {
						break
					}
					k, next = x.back(t, s, gone)
				}
				x.end(t, k, s)
			}
		}
	}
}

// P20.2: what the journal refuses first: a store that is full and without power is ErrFull, as long as none of its writes failed.
func TestFullAndDown(t *testing.T) {
	p := newPair(t, weeks(4), 7)
	p.do(first()[0])
	p.s.Fuse(0, 0)
	p.s.Write(6, strings.Repeat("x", store.Size))
	was := look(p.s)
	for _, x := range []struct {
		b    string
		want api.Errno
	}{{"", api.ErrForm}, {bytesOf(2), api.ErrFull}, {bytesOf(11), api.ErrFull}, {laid(bill, 0, 28, 60), api.ErrDown}, {bytesOf(2), api.ErrDown}, {"", api.ErrForm}, {"x", api.ErrForm}} {
		if got := p.k.Do(x.b); got != refused(x.want) {
			t.Fatalf("Do of %q: %q, not %d", x.b, got, x.want)
		}
		if look(p.s) != was {
			t.Fatalf("Do of %q wrote", x.b)
		}
		mustBe(t, p.k, p.m)
	}
	p.s.Restart()
	for _, b := range []string{laid(bill, 0, 28, 60), bytesOf(2), laid(closing, 0)} {
		if got := p.k.Do(b); got != refused(api.ErrDown) {
			t.Fatalf("Do of %q, with power again: %q", b, got)
		}
	}
	if errno := p.k.Snap(); errno != api.ErrDown || look(p.s) != was {
		t.Fatalf("Snap, with power again: %d", errno)
	}
	p.back()
	p.must(laid(bill, 0, 28, 60), api.OK, 60, 0)
}
