package keep_test

import (
	"math"
	"slices"
	"strings"
	"testing"

	"quitrent/api"
	"quitrent/codec"
	"quitrent/journal"
	"quitrent/keep"
)

// holdNothing holds that bytes that are no command are ErrForm, and change nothing at all.
func (p *pair) holdNothing(b string) {
	p.t.Helper()
	was, writes, room := look(p.s), p.s.Writes(), p.k.Room()
	if got := p.k.Do(b); got != "\x02\x00" {
		p.t.Fatalf("Do of %q: %q", b, got)
	}
	if look(p.s) != was || p.s.Writes() != writes || p.k.Room() != room {
		p.t.Fatalf("Do of %q wrote", b)
	}
}

// P20.2: the chapter's example: no bytes.
func TestDoOfNoBytes(t *testing.T) {
	p := newPair(t, weeks(4), 99)
	if got := p.k.Do(""); got != string([]byte{2, 0}) {
		t.Fatalf("Do of no bytes: %q", got)
	}
	p.same()
}

// P20.2: ErrForm: bytes that are no command, behind each command: nothing is kept, and all goes on as if they hadn't come.
func TestDoOfBytesThatAreNoCommand(t *testing.T) {
	p := newPair(t, weeks(4), 99)
	for _, b := range append([]string{""}, first()...) {
		if b != "" {
			p.do(b)
		}
		for _, x := range malformed() {
			p.holdNothing(x)
			p.do(x)
		}
		for _, c := range first() {
			for _, x := range []string{c + "\x00", c + "\x01", c[:len(c)-1], c[:1], c[1:], c + c, "\x00" + c, list(c)} {
				if _, ok := parsed(x); !ok {
					p.holdNothing(x)
				}
			}
		}
		p.same()
	}
	p.back()
	p.probe()
}

// P20.2: ErrForm: numbers that have more bytes than they need, or are more than 64 bits hold.
func TestDoOfWastefulNumbers(t *testing.T) {
	p := newPair(t, weeks(4), 99)
	for _, n := range sizes() {
		b := laid(0, n)[2:]
		wasteful := b[:len(b)-1] + string([]byte{b[len(b)-1] | 0x80, 0})
		p.holdNothing("\x07\x01" + wasteful)
		p.holdNothing("\x09\x03\x00" + wasteful + "\x00")
	}
	for last := 2; last < 128; last++ {
		p.holdNothing("\x07\x01" + strings.Repeat("\xff", 9) + string([]byte{byte(last)}))
	}
	p.same()
}

// P20.2: ErrForm: a command has no more than 64 Args, however many bytes there are.
func TestDoOfManyArgs(t *testing.T) {
	p := newPair(t, weeks(4), 99)
	for many := range 256 {
		for _, n := range []string{"\x00", "\x7f", strings.Repeat("\xff", 9) + "\x01"} {
			for _, kind := range []string{"\x00", "\x01", "\x0a", "\xff"} {
				b := kind + string([]byte{byte(many)}) + strings.Repeat(n, many)
				if many > 64 {
					p.holdNothing(b)
					continue
				}
				one := newPair(t, weeks(4), 99)
				one.do(b)
				one.same()
			}
		}
	}
	p.same()
	p.back()
}

// P20.2: a command of a Kind that the engine doesn't know, or with other Args than it asks for, is kept, and replied by the engine.
func TestDoOfEachKind(t *testing.T) {
	for _, args := range [][]int64{nil, {0}, {1, 2}, {0, 1, 2}, {0, 1, 2, 3}, {0, 0, 0, 0, 0}, slices.Repeat([]int64{math.MinInt64}, 30)} {
		p := newPair(t, weeks(4), 4096)
		for kind := range 256 {
			b, room := laid(kind, args...), p.k.Room()
			got := p.do(b)
			if (kind == 0 || kind > balance) && got != refused(api.ErrForm) {
				t.Fatalf("Kind %d: %q", kind, got)
			}
			if p.k.Room() != room-blocks(b) {
				t.Fatalf("Kind %d: room %d, then %d", kind, room, p.k.Room())
			}
		}
		p.same()
		p.back()
		p.probe()
	}
}

// P20.2: what each Kind is replied, answered and refused: literal numbers. All of it is kept, and of that what was answered was done.
func TestDo(t *testing.T) {
	p := newPair(t, weeks(4), 199)
	kept := 0
	for i, x := range []struct {
		kind   int
		args   []int64
		e      api.Errno
		values []int64
	}{
		{bill, []int64{0, 1, 5}, api.ErrName, nil},
		{sign, []int64{0, 1, 0, 2, byDay, 1, 60, 1, 56, percent, 1, 40, 1, 1}, api.OK, []int64{100, 2}},
		{sign, []int64{0, 1, 0, 0}, api.ErrTwice, nil},
		{sign, []int64{40, 1, 0, 0}, api.ErrName, nil},
		{sign, []int64{1, 1, 0, 0}, api.ErrArg, nil},
		{sign, []int64{1, 1, 0, 1}, api.ErrForm, nil},
		{bill, []int64{0, 28, 60}, api.OK, []int64{60, 0}},
		{bill, []int64{0, 29, 60}, api.ErrOrder, nil},
		{bill, []int64{0, 28, 0}, api.ErrArg, nil},
		{bill, []int64{0, 28, math.MaxInt64}, api.ErrOver, nil},
		{tell, []int64{0, 1, 20, 4000}, api.OK, nil},
		{tell, []int64{0, 1, 20, 4000}, api.ErrTwice, nil},
		{tell, []int64{0, 2, 20, 4000}, api.ErrName, nil},
		{earned, []int64{0, 0, 28}, api.OK, []int64{25}},
		{earned, []int64{0, 1, 28}, api.OK, []int64{20}},
		{earned, []int64{0, 2, 28}, api.ErrName, nil},
		{closing, []int64{1}, api.ErrArg, nil},
		{closing, []int64{0}, api.OK, []int64{1}},
		{closing, []int64{0}, api.ErrArg, nil},
		{bill, []int64{0, 28, 60}, api.ErrClosed, nil},
		{balance, []int64{3, 0, 0}, api.OK, []int64{-45}},
		{balance, []int64{1, 0, 3}, api.OK, []int64{-15}},
		{balance, []int64{4, 0, 3}, api.ErrArg, nil},
		{balance, []int64{0, 1, 3}, api.ErrName, nil},
		{price, []int64{byDay, 5, 70}, api.OK, nil},
		{price, []int64{byDay, 5, 70}, api.ErrTwice, nil},
		{price, []int64{4, 5, 70}, api.ErrName, nil},
		{onward, []int64{0, 30, 10}, api.OK, nil},
		{onward, []int64{0, 29, 10}, api.ErrOrder, nil},
		{afresh, []int64{0, 30, -200}, api.ErrArg, nil},
		{afresh, []int64{0, 30, -10}, api.OK, nil},
		{closing, []int64{1}, api.OK, []int64{1}},
		{99, []int64{1, -1}, api.ErrForm, nil},
	} {
		b := laid(x.kind, x.args...)
		p.must(b, x.e, x.values...)
		kept++
		if j, errno := journal.Open(p.s); errno != api.OK || len(j.Records()) != kept || j.Records()[kept-1] != b {
			t.Fatalf("command %d isn't kept: %d, %q", i, errno, j.Records())
		}
		p.same()
		p.probe()
	}
	if got := p.k.Done(); len(got) != 12 || got[0] != laid(sign, 0, 1, 0, 2, byDay, 1, 60, 1, 56, percent, 1, 40, 1, 1) || got[11] != laid(closing, 1) {
		t.Fatalf("Done: %d, %q", len(got), got)
	}
	p.back()
}

// P20.2: a reply's bytes: of the error, and of Values of all sizes.
func TestReplies(t *testing.T) {
	for _, n := range sizes() {
		if n < 1 {
			continue
		}
		p := newPair(t, weeks(4), 199)
		p.must(laid(sign, 0, 1, 0, 1, byDay, 1, n, 1, 28), api.OK, n, 1)
		p.must(laid(earned, 0, 0, 28), api.OK, n)
		p.must(laid(bill, 0, 28, n), api.OK, n, 0)
		p.must(laid(balance, 1, 0, 0), api.OK, -n)
		p.must(laid(closing, 0), api.OK, 1)
		p.must(laid(balance, 3, 0, 0), api.OK, -n)
		if c, errno := codec.Read(p.k.Do(laid(balance, 3, 0, 0))); errno != api.OK || c.Kind != 0 || !slices.Equal(c.Args, []int64{-n}) {
			t.Fatalf("a reply isn't a command's bytes: %d, %v", errno, c)
		}
	}
}

// bytesOf tells a command of a Kind that the engine doesn't know, of so many blocks.
func bytesOf(many int) string {
	for long := range 65 {
		for _, n := range []int64{0, math.MinInt64} {
			if b := laid(10, slices.Repeat([]int64{n}, long)...); blocks(b) == many {
				return b
			}
		}
	}
	return ""
}

// P20.2: a store that is full: by one block too few, just full, and with room for others of fewer blocks. What is refused isn't done.
func TestDoOfAFullStore(t *testing.T) {
	for need := 1; need <= 11; need++ {
		b := bytesOf(need)
		for left := range need + 3 {
			p := newPair(t, weeks(4), 3+2*left)
			was, writes := look(p.s), p.s.Writes()
			want := refused(api.ErrForm)
			if left < need {
				want = refused(api.ErrFull)
			}
			if got := p.do(b); got != want {
				t.Fatalf("%d blocks, and %d left: %q, not %q", need, left, got, want)
			}
			if left < need && (look(p.s) != was || p.s.Writes() != writes) {
				t.Fatalf("%d blocks, and %d left: it wrote", need, left)
			}
			p.same()
			for fewer := need; fewer > 0; fewer-- {
				p.do(bytesOf(fewer))
				p.same()
			}
			p.do(laid(closing, 0))
			p.back()
			p.probe()
		}
	}
}

// P20.2: commands of which a store has no room for some: what is refused by it isn't done, and what is kept is done, in stores of all sizes.
func TestDoUntilFull(t *testing.T) {
	for size := 3; size < 60; size++ {
		p := newPair(t, weeks(4), size)
		full := false
		for _, b := range first() {
			room, e := p.k.Room(), state(p.k.Engine())
			got := p.do(b)
			if isFull := got == refused(api.ErrFull); isFull != (blocks(b) > room) || isFull && state(p.k.Engine()) != e {
				t.Fatalf("%d blocks, and %d left: %q", blocks(b), room, got)
			}
			full = full || got == refused(api.ErrFull)
			p.same()
		}
		if full != (size < 25) {
			t.Fatalf("of %d blocks: full: %t", size, full)
		}
		p.holdNothing("")
		p.back()
		p.probe()
	}
}

// P20.2: where the engine has no room, and the store has, the command is kept and replied with ErrFull by the engine.
func TestDoOfAFullEngine(t *testing.T) {
	p := newPair(t, weeks(4), 199)
	p.must(laid(sign, 0, 1, 0, 1, byDay, 1, 100, 1, 56), api.OK, 100, 1)
	more := laid(onward, 0, 2, 1)
	for range 40 {
		p.must(more, api.OK)
	}
	room := p.k.Room()
	p.must(more, api.ErrFull)
	if p.k.Room() != room-1 || len(p.k.Done()) != 41 {
		t.Fatalf("room %d, then %d, %d done", room, p.k.Room(), len(p.k.Done()))
	}
	p.same()
	p.must(laid(bill, 0, 28, 5), api.OK, 5, 0)
	p.same()
	p.back()
	p.probe()
}

// P20.2: no command has more bytes than a record may have: the greatest one is kept, of 642 bytes.
func TestDoOfTheGreatestCommand(t *testing.T) {
	b := laid(255, slices.Repeat([]int64{math.MinInt64}, 64)...)
	p := newPair(t, weeks(4), 3+2*11)
	if len(b) != 642 || p.k.Room() != 11 {
		t.Fatalf("%d bytes, %d left", len(b), p.k.Room())
	}
	p.must(b, api.ErrForm)
	if p.k.Room() != 0 {
		t.Fatalf("%d left", p.k.Room())
	}
	p.same()
	p.must(b, api.ErrFull)
	p.must(laid(closing, 0), api.ErrFull)
	p.back()
	for _, many := range []int{40000, 40001, 1 << 20} {
		p.holdNothing(strings.Repeat("\x01", many))
	}
}

// P20.1, P20.2: Done has what was replied with OK alone, in order, also what is asked and changes nothing, and as often as it came.
func TestDone(t *testing.T) {
	p := newPair(t, weeks(4), 199)
	one, two, wrong := laid(sign, 0, 1, 0, 1, byDay, 1, 60, 1, 56), laid(earned, 0, 0, 28), laid(earned, 0, 1, 28)
	for _, b := range []string{two, one, two, wrong, one, two, "x", laid(0), two} {
		p.do(b)
	}
	want := []string{one, two, two, two}
	for range 3 {
		if got := p.k.Done(); !slices.Equal(got, want) {
			t.Fatalf("Done: %q, not %q", got, want)
		}
		p.back()
	}
	if errno := p.snap(); errno != api.OK || !slices.Equal(p.k.Done(), want) {
		t.Fatalf("Snap: %d, %q", errno, p.k.Done())
	}
	p.back()
}

// R3: what a caller does with Done's list changes no later answer, and the next one changes none that was answered.
func TestDoneIsTheCallersOwn(t *testing.T) {
	p := newPair(t, weeks(4), 199)
	for _, b := range first() {
		l := p.k.Done()
		was := slices.Clone(l)
		for i := range l {
			l[i] = "x"
		}
		_ = append(l, "x", "x", "x")
		other := p.k.Done()
		p.do(b)
		if !slices.Equal(other, was) {
			t.Fatalf("Done: %q, not %q", other, was)
		}
		p.same()
	}
	l := p.k.Done()
	slices.Reverse(l)
	if errno := p.snap(); errno != api.OK {
		t.Fatalf("Snap: %d", errno)
	}
	p.same()
	p.back()
}

// R3: what a caller does with the configuration's items afterwards changes nothing, and Open changes none of them.
func TestItemsAreTheCallersOwn(t *testing.T) {
	c := weeks(4)
	s := newStore(t, 199)
	k := mustOpen(t, c, s)
	if !slices.Equal(c.Items, weeks(4).Items) {
		t.Fatalf("Open changed the items: %v", c.Items)
	}
	for i := range c.Items {
		c.Items[i] = api.Item{Method: api.Point, Price: 7}
	}
	m, _ := newModel(weeks(4), 199, "")
	for _, b := range append(first(), probes()[len(probes())-50:]...) {
		if got, want := k.Do(b), m.do(b); got != want {
			t.Fatalf("Do of %q: %q, not %q", b, got, want)
		}
	}
	mustBe(t, k, m)
}

// R4: what is asked twice is answered the same, and changes nothing.
func TestAskedTwice(t *testing.T) {
	p := newPair(t, weeks(4), 199)
	for _, b := range first() {
		p.do(b)
		was, writes := look(p.s), p.s.Writes()
		for range 3 {
			if p.k.Engine() == nil || p.k.Engine() != p.k.Engine() {
				t.Fatal("another engine")
			}
			p.same()
		}
		if look(p.s) != was || p.s.Writes() != writes {
			t.Fatal("asked, it wrote")
		}
	}
}

// R5: engines beside each other, each with a store of its own, share nothing.
func TestBesideEachOther(t *testing.T) {
	var l []*pair
	for i := range 4 {
		l = append(l, newPair(t, weeks(4), 60+i))
	}
	all := first()
	for at := range all {
		for i, p := range l {
			p.do(all[(at+i)%len(all)])
			if (at+i)%3 == 0 {
				p.snap()
			}
		}
		for _, p := range l {
			p.same()
		}
	}
	for _, p := range l {
		p.back()
		p.probe()
	}
}

// R5: an engine of its own, by no store, has nothing of one that is kept.
func TestOpenOfTheSameStoreLater(t *testing.T) {
	s := newStore(t, 99)
	one := mustOpen(t, weeks(4), s)
	for i, b := range first() {
		one.Do(b)
		two := mustOpen(t, weeks(4), s)
		if !slices.Equal(two.Done(), one.Done()) || state(two.Engine()) != state(one.Engine()) || two.Engine() == one.Engine() {
			t.Fatalf("behind command %d: %q", i, two.Done())
		}
	}
	var none *keep.Keep
	if k, errno := keep.Open(weeks(0), s); k != none || errno != api.ErrArg {
		t.Fatalf("%t, %d", k != nil, errno)
	}
}
