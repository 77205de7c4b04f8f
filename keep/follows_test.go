package keep_test

import (
	"math"
	"slices"
	"testing"

	"quitrent/api"
	"quitrent/codec"
	"quitrent/fiscal"
	"quitrent/keep"
	"quitrent/store"
)

// chooser chooses bytes of an engine that is kept: commands of any kind, and others.
type chooser struct {
	p    *pair
	next func(int) int
}

// day tells a day of about the engine's periods.
func (x *chooser) day() int64 {
	last, _ := fiscal.Last(x.p.c.Calendar, x.p.c.Periods-1)
	return int64(x.next(last + 40))
}

// amount tells an amount of any size.
func (x *chooser) amount() int64 {
	return []int64{0, 1, int64(x.next(10)), int64(x.next(300)), int64(x.next(1 << 40)), 1 << x.next(63), math.MaxInt64 - int64(x.next(2))}[x.next(7)]
}

// change tells an amount of either sign.
func (x *chooser) change() int64 {
	if x.next(2) == 0 {
		return -x.amount()
	}
	return x.amount()
}

// open tells the open period, and its first and last days, or the last one's.
func (x *chooser) open() (int64, int64, int64) {
	open := x.p.m.e.Ledger().Open()
	period := min(open, x.p.c.Periods-1)
	first, _ := fiscal.First(x.p.c.Calendar, period)
	last, _ := fiscal.Last(x.p.c.Calendar, period)
	return int64(open), int64(first), int64(last)
}

// command tells a command's bytes; the command may be refused.
func (x *chooser) command() string {
	number := int64(x.next(5) * 9)
	open, first, last := x.open()
	switch x.next(14) {
	case 0, 1:
		return laid(sign, x.lines(number)...)
	case 2, 3, 4:
		return laid(bill, number, first+int64(x.next(int(last-first)+2)), x.amount())
	case 5, 6:
		return laid(tell, number, int64(x.next(4)), x.day(), []int64{1, 3, 5000, 10000, 7}[x.next(5)])
	case 7:
		return laid(onward, number, x.day(), x.change())
	case 8:
		return laid(afresh, number, x.day(), x.change())
	case 9:
		return laid(price, int64(x.next(5)), x.day(), 1+x.amount()/2)
	case 10:
		return laid(earned, number, int64(x.next(4)), x.day())
	case 11:
		return laid(balance, int64(x.next(5)), number, int64(x.next(x.p.c.Periods+1)))
	case 12:
		return laid(x.next(256), slices.Repeat([]int64{x.change()}, x.next(20))...)
	default:
		return laid(closing, open+int64(x.next(5)/4))
	}
}

// lines tells the Args of a sign.
func (x *chooser) lines(number int64) []int64 {
	l := []int64{number, x.day()}
	may := x.next(3)
	l = append(l, int64(may))
	for range may {
		l = append(l, x.change()/1000, int64(x.next(10002)))
	}
	many := 1 + x.next(4)
	l = append(l, int64(many))
	for range many {
		first := x.day()
		l = append(l, int64(x.next(4)), int64(1+x.next(4)), x.amount(), first, first+int64(x.next(90)))
	}
	return l
}

// choose tells a move.
func (x *chooser) choose() move {
	switch b := x.command(); x.next(20) {
	case 0:
		return move{snap: true}
	case 1:
		return move{b: b[:x.next(len(b))]}
	case 2:
		at := x.next(len(b))
		return move{b: b[:at] + string([]byte{byte(x.next(256))}) + b[at+1:]}
	default:
		return move{b: b}
	}
}

// play does a move, and holds what is answered.
func (p *pair) play(x move) {
	p.t.Helper()
	if x.snap {
		p.snap()
		return
	}
	p.do(x.b)
}

// P20.1 to P20.3, W1: long mixed courses, of both calendars and stores of all sizes, opened again here and there: all that is told, behind each move.
func TestMixed(t *testing.T) {
	next := random()
	for i := range 60 {
		c := weeks([]int{1, 2, 4, 7}[i%4])
		if i/4%2 == 1 {
			c = months(c.Periods)
		}
		p := newPair(t, c, []int{5, 9, 21, 60, 200, 401}[i%6])
		x := &chooser{p: p, next: next}
		for range 120 {
			p.play(x.choose())
			p.same()
			if next(10) == 0 {
				p.back()
			}
		}
		p.back()
		p.probe()
	}
}

// P20.3, W4: long mixed courses in which the power goes here and there, also as it comes back: what is next is what the store's journal tells.
func TestMixedWithoutPower(t *testing.T) {
	next := random()
	for i := range 80 {
		p := newPair(t, weeks(4), []int{9, 41, 201}[i%3])
		x := &chooser{p: p, next: next}
		for range 150 {
			y := x.choose()
			if next(4) > 0 {
				p.play(y)
				continue
			}
			was := p.m.keeping()
			p.s.Fuse(next(6), next(66)-1)
			if got := play(p.k, y); got != refused(api.ErrDown) {
				if want := p.m.play(y); got != want {
					t.Fatalf("%q: %q, not %q", y.b, got, want)
				}
				p.s.Restart()
				continue
			}
			p.s.Restart()
			p.k = mustOpen(t, p.c, p.s)
			if !was.is(t, p.k, p.s) {
				p.m.play(y)
			}
			p.same()
			p.back()
		}
		p.back()
		p.probe()
	}
}

// P20.3, W1: each reply of a long mixed course is as if what is no command, and what was refused, hadn't come, and as if none of it was kept.
func TestWithoutWhatWasRefused(t *testing.T) {
	next := random()
	for i := range 30 {
		p, not := newPair(t, weeks(1+i%4), 401), newPair(t, weeks(1+i%4), 4096)
		x := &chooser{p: p, next: next}
		for range 150 {
			y := x.choose()
			if y.snap {
				p.snap()
				continue
			}
			got := p.do(y.b)
			if r, errno := codec.Read(got); errno != api.OK || r.Kind != 0 {
				continue
			}
			if want := not.do(y.b); got != want {
				t.Fatalf("%q: %q, not %q", y.b, got, want)
			}
		}
		if got, want := state(p.k.Engine()), state(not.k.Engine()); got != want || !slices.Equal(p.k.Done(), not.k.Done()) {
			t.Fatalf("%s, not %s", got, want)
		}
	}
}

// R4, R5: the same moves answer the same, of an engine that is kept alone and of some beside each other.
func TestTheSameAgain(t *testing.T) {
	next := random()
	for range 10 {
		p, other := newPair(t, weeks(4), 101), newPair(t, months(2), 33)
		x, y := &chooser{p: p, next: next}, &chooser{p: other, next: next}
		var l []move
		var answers []string
		for range 100 {
			one, two := x.choose(), y.choose()
			other.play(two)
			l = append(l, one)
			if one.snap {
				answers = append(answers, refused(p.snap()))
			} else {
				answers = append(answers, p.do(one.b))
			}
		}
		other.same()
		s := newStore(t, 101)
		k := mustOpen(t, weeks(4), s)
		for i, one := range l {
			if got := play(k, one); got != answers[i] {
				t.Fatalf("move %d: %q, not %q", i, got, answers[i])
			}
		}
		mustBe(t, k, p.m)
		if look(s) != look(p.s) {
			t.Fatal("the same moves wrote other blocks")
		}
	}
}

// R1: no call panics, whatever bytes it is given, and whatever bytes are kept.
func TestNothingPanics(t *testing.T) {
	next := random()
	k := mustOpen(t, weeks(4), newStore(t, 4096))
	for i := range 30000 {
		b := make([]byte, next(12))
		for at := range b {
			b[at] = byte(next(256))
		}
		if next(2) == 0 && len(b) > 2 {
			b[0], b[1] = byte(next(11)), byte(next(len(b)))
		}
		k.Do(string(b))
		if i%20 > 0 {
			continue
		}
		for name, s := range map[string]*store.Store{"a text": wrote(t, 9, string(b)), "a record": wrote(t, 9, "", string(b)), "a list": wrote(t, 9, list(string(b)))} {
			if k, errno := keep.Open(weeks(4), s); (k == nil) != (errno == api.ErrSum) || k != nil && errno != api.OK {
				t.Fatalf("%s of %q: %t, %d", name, b, k == nil, errno)
			}
		}
	}
	k.Snap()
	k.Room()
	k.Done()
}
