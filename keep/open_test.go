package keep_test

import (
	"slices"
	"strings"
	"testing"

	"quitrent/api"
	"quitrent/engine"
	"quitrent/fiscal"
	"quitrent/journal"
	"quitrent/keep"
	"quitrent/store"
)

// first are commands that are done, one behind the other.
func first() []string {
	return []string{
		laid(sign, 0, 1, 0, 2, byDay, 1, 100, 1, 56, percent, 1, 20, 1, 1),
		laid(bill, 0, 28, 60),
		laid(price, byDay, 7, 90),
		laid(tell, 0, 1, 20, 5000),
		laid(sign, 39, 10, 1, 50, 6000, 1, units, 10, 300, 1, 90),
		laid(closing, 0),
		laid(tell, 39, 0, 40, 3),
		laid(onward, 0, 40, 33),
		laid(afresh, 39, 41, -50),
		laid(earned, 39, 0, 41),
		laid(balance, 3, 0, 0),
	}
}

// turned are configurations that engine.New refuses, and its errors.
func turned() map[string]struct {
	c engine.Config
	e api.Errno
} {
	l := map[string]struct {
		c engine.Config
		e api.Errno
	}{}
	put := func(name string, e api.Errno, turn func(c *engine.Config)) {
		c := weeks(4)
		turn(&c)
		l[name] = struct {
			c engine.Config
			e api.Errno
		}{c, e}
	}
	put("a calendar of another Kind", api.ErrArg, func(c *engine.Config) { c.Calendar.Kind = 2 })
	put("a calendar of Kind -1", api.ErrArg, func(c *engine.Config) { c.Calendar.Kind = -1 })
	put("a calendar from day 0", api.ErrArg, func(c *engine.Config) { c.Calendar.First = 0 })
	put("no periods", api.ErrArg, func(c *engine.Config) { c.Periods = 0 })
	put("periods below 0", api.ErrArg, func(c *engine.Config) { c.Periods = -1 })
	put("241 periods", api.ErrArg, func(c *engine.Config) { c.Periods = 241 })
	put("41 items", api.ErrFull, func(c *engine.Config) { c.Items = make([]api.Item, 41) })
	put("an item of no price", api.ErrArg, func(c *engine.Config) { c.Items = []api.Item{{}} })
	put("a bound below 0", api.ErrArg, func(c *engine.Config) { c.Bound = -1 })
	put("a bound above Whole", api.ErrArg, func(c *engine.Config) { c.Bound = 10001 })
	put("41 items, and a bound below 0", api.ErrFull, func(c *engine.Config) { c.Items, c.Bound = make([]api.Item, 41), -1 })
	put("41 items, and no periods", api.ErrArg, func(c *engine.Config) { c.Items, c.Periods = make([]api.Item, 41), 0 })
	return l
}

// P20.1: engine.New's error comes first, whatever the store is, and none of its blocks is written then.
func TestOpenOfAConfiguration(t *testing.T) {
	for name, x := range turned() {
		mustRefuse(t, name+", no store", x.c, nil, x.e)
		down := newStore(t, 5)
		down.Fuse(0, 0)
		down.Write(1, strings.Repeat("x", store.Size))
		corrupt := newStore(t, 5)
		corrupt.Write(0, strings.Repeat("\x02", store.Size))
		for where, s := range map[string]*store.Store{
			"a new store": newStore(t, 5), "no power": down, "no journal": corrupt, "no list": wrote(t, 9, "x"),
			"no command": wrote(t, 9, "", "x"), "done": wrote(t, 99, list(first()...)), "not yet done": wrote(t, 99, "", first()...),
		} {
			was, writes := look(s), s.Writes()
			mustRefuse(t, name+", "+where, x.c, s, x.e)
			if look(s) != was || s.Writes() != writes {
				t.Fatalf("%s, %s: Open wrote", name, where)
			}
		}
	}
}

// P20.1: journal.Open's error: of no store, of one without power, and of what no journal wrote.
func TestOpenOfAStore(t *testing.T) {
	mustRefuse(t, "no store", weeks(4), nil, api.ErrArg)
	down := newStore(t, 5)
	down.Fuse(0, 0)
	down.Write(1, strings.Repeat("x", store.Size))
	mustRefuse(t, "no power, a new store", weeks(4), down, api.ErrDown)
	for at, b := range map[int]string{0: "\x02", 1: "\x02", 2: "\xff"} {
		s := wrote(t, 9, "", "")
		s.Write(at, b+strings.Repeat("\x00", store.Size-1))
		mustRefuse(t, "no journal", weeks(4), s, api.ErrSum)
	}
	s := wrote(t, 9, "x")
	s.Write(0, "\x01x"+strings.Repeat("\x00", store.Size-2))
	mustRefuse(t, "another byte of block 0", weeks(4), s, api.ErrSum)
}

// P20.1: stores of all sizes, that are new: nothing is done, and the journal's room.
func TestOpenOfANewStore(t *testing.T) {
	for size, room := range map[int]int{3: 0, 4: 0, 5: 1, 6: 1, 7: 2, 64: 30, 65: 31, 4095: 2046, 4096: 2046} {
		for _, c := range []engine.Config{weeks(1), weeks(240), months(3), {Calendar: fiscal.Calendar{Kind: fiscal.Weeks, First: 1}, Periods: 1}} {
			p := newPair(t, c, size)
			if p.k.Room() != room || p.k.Done() != nil || p.s.Writes() != 2 {
				t.Fatalf("of %d blocks: %d, %q, %d writes", size, p.k.Room(), p.k.Done(), p.s.Writes())
			}
			e := p.k.Engine()
			if e == nil || e != p.k.Engine() || e.Periods() != c.Periods || e.Calendar() != c.Calendar {
				t.Fatalf("of %d blocks: another engine", size)
			}
			p.same()
			p.back()
			p.probe()
		}
	}
}

// P20.1: without power what is kept comes back, as nothing is to be written; all that is to be kept is ErrDown.
func TestOpenWithoutPower(t *testing.T) {
	for name, s := range map[string]*store.Store{"records": wrote(t, 99, "", first()...), "a text": wrote(t, 99, list(first()...)), "both": wrote(t, 99, list(first()[:4]...), first()[4:]...)} {
		s.Fuse(0, 0)
		s.Write(98, strings.Repeat("x", store.Size))
		p := behind(t, weeks(4), s)
		p.same()
		if got := p.k.Do(laid(bill, 0, 29, 1)); got != refused(api.ErrDown) {
			t.Fatalf("%s: %q", name, got)
		}
		p.same()
		if errno := p.k.Snap(); errno != api.ErrDown {
			t.Fatalf("%s: Snap: %d", name, errno)
		}
		p.same()
		s.Restart()
		p.back()
		p.must(laid(bill, 0, 29, 1), api.OK, 1, 0)
	}
}

// P20.1: a text of nothing, of a list of none, one and many, and records behind it.
func TestOpenOfWhatWasDone(t *testing.T) {
	all := first()
	for many := range len(all) + 1 {
		for name, s := range map[string]*store.Store{"a text": wrote(t, 99, list(all[:many]...)), "records": wrote(t, 99, "", all[:many]...)} {
			p := behind(t, weeks(4), s)
			if got := p.k.Done(); !slices.Equal(got, all[:many]) {
				t.Fatalf("%s of %d: Done %q", name, many, got)
			}
			p.same()
			p.probe()
		}
		for behindIt := many; behindIt <= len(all); behindIt++ {
			s := wrote(t, 99, list(all[:many]...), all[many:behindIt]...)
			p := behind(t, weeks(4), s)
			if got := p.k.Done(); !slices.Equal(got, all[:behindIt]) {
				t.Fatalf("%d, and %d behind it: Done %q", many, behindIt-many, got)
			}
			p.same()
			p.back()
			p.probe()
		}
	}
}

// P20.1: what came back is the engine that did it: literal numbers.
func TestOpenTellsTheEngine(t *testing.T) {
	for _, s := range []*store.Store{wrote(t, 99, list(first()...)), wrote(t, 99, "", first()...), wrote(t, 99, list(first()[:5]...), first()[5:]...)} {
		k := mustOpen(t, weeks(4), s)
		c, billed, recognized, ok := k.Engine().Contract(0)
		if !ok || billed != 60 || recognized != 60 || c.Price() != 153 {
			t.Fatalf("contract 0: %t, %d, %d", ok, billed, recognized)
		}
		if _, _, _, ok := k.Engine().Contract(39); !ok || k.Engine().Ledger().Open() != 1 {
			t.Fatalf("contract 39: %t, open %d", ok, k.Engine().Ledger().Open())
		}
		if got := k.Do(laid(balance, 3, 0, 0)); got != laid(0, -60) {
			t.Fatalf("balance: %q", got)
		}
	}
}

// P20.1: ErrSum: a text that is no list.
func TestOpenOfATextThatIsNone(t *testing.T) {
	all := list(first()...)
	texts := []string{"\x01", "\x02", "\x04\x04\x07\x00", "\x00\x00", all + "\x00", all[:len(all)-1], all[1:], "\x80\x00", "\xff", strings.Repeat("\x00", 64), list(first()[0]) + "\x00"}
	for long := 1; long < len(all); long++ {
		texts = append(texts, all[:long])
	}
	for _, text := range texts {
		for _, records := range [][]string{nil, {laid(closing, 0)}, {"x"}} {
			mustRefuse(t, "no list", weeks(4), wrote(t, 99, text, records...), api.ErrSum)
		}
	}
	many := slices.Repeat([]string{laid(price, byDay, 1, 5)}, 1001)
	mustRefuse(t, "1001", weeks(4), wrote(t, 999, list(many...)), api.ErrSum)
}

// P20.1: ErrSum: bytes of a text's list of which one is no command, or of which the engine refuses one: at each place.
func TestOpenOfATextOfWhatIsRefused(t *testing.T) {
	all := first()
	for at := range len(all) + 1 {
		for _, b := range append(malformed(), laid(0), laid(10), laid(255, 1, 2), laid(sign), laid(closing), laid(closing, 3), laid(bill, 7, 28, 5), laid(bill, 0, 28, 0), laid(sign, 40, 1, 0, 0), laid(earned, 0, 9, 1), laid(balance, 4, 0, 0)) {
			text := list(slices.Insert(slices.Clone(all), at, b)...)
			mustRefuse(t, "one that is refused", weeks(4), wrote(t, 99, text), api.ErrSum)
			mustRefuse(t, "one that is refused, and a record", weeks(4), wrote(t, 99, text, laid(price, byDay, 90, 5)), api.ErrSum)
		}
	}
	for _, b := range []string{all[0], all[2], all[3], all[5]} {
		mustRefuse(t, "one that is refused behind itself", weeks(4), wrote(t, 99, list(append(slices.Clone(all), b)...)), api.ErrSum)
	}
	slices.Reverse(all)
	mustRefuse(t, "the last one first", weeks(4), wrote(t, 99, list(all...)), api.ErrSum)
	mustRefuse(t, "of another engine", weeks(1), wrote(t, 99, list(first()[0], laid(closing, 0), laid(closing, 1))), api.ErrSum)
}

// malformed are bytes that are no command.
func malformed() []string {
	return []string{
		"", "\x07", "\x07\x01", "\x07\x00\x00", "\x07\x01\x00\x00", "\x07\x01\x80\x00", "\x07\x01\x80", "\x07\x02\x00",
		"\x07\x41" + strings.Repeat("\x00", 65), "\x07\xff" + strings.Repeat("\x00", 255), "\x07\x01" + strings.Repeat("\xff", 9) + "\x02",
		strings.Repeat("\x07", 8), "x", laid(closing, 0) + "\x00", laid(closing, 0)[:2], laid(bill, 0, 28, 60)[1:], list(laid(closing, 0)),
	}
}

// P20.1: ErrSum: a record that is no command, at each place, also behind one that is refused, and with a right text or a wrong one ahead.
func TestOpenOfARecordThatIsNone(t *testing.T) {
	all := first()
	for at := range len(all) + 1 {
		for _, b := range malformed() {
			mustRefuse(t, "no command", weeks(4), wrote(t, 199, "", slices.Insert(slices.Clone(all), at, b)...), api.ErrSum)
			mustRefuse(t, "no command, behind a text", weeks(4), wrote(t, 199, list(all[:at]...), append([]string{b}, all[at:]...)...), api.ErrSum)
			mustRefuse(t, "no command, behind a refused one", weeks(4), wrote(t, 199, "", slices.Insert(slices.Clone(all), at, laid(closing, 9), b)...), api.ErrSum)
		}
	}
	mustRefuse(t, "no command alone", weeks(4), wrote(t, 199, "", ""), api.ErrSum)
	mustRefuse(t, "no command behind a wrong text", weeks(4), wrote(t, 199, "x", ""), api.ErrSum)
}

// P20.1: records that are replied with errors: they are refused again, and aren't what was done.
func TestOpenOfRecordsThatAreRefused(t *testing.T) {
	all := first()
	wrong := []string{laid(0), laid(10), laid(255, 1, 2), laid(sign), laid(closing, 9), laid(bill, 7, 28, 5), laid(earned, 0, 9, 1), laid(balance, 4, 0, 0), laid(99, slices.Repeat([]int64{-1 << 63}, 64)...)}
	for _, b := range wrong {
		for at := range len(all) + 1 {
			p := behind(t, weeks(4), wrote(t, 299, "", slices.Insert(slices.Clone(all), at, b)...))
			if got := p.k.Done(); !slices.Equal(got, all) {
				t.Fatalf("%q at %d: Done %q", b, at, got)
			}
			p.same()
			p.probe()
		}
	}
	p := behind(t, weeks(4), wrote(t, 99, "", wrong...))
	if p.k.Done() != nil {
		t.Fatalf("Done %q", p.k.Done())
	}
	p.same()
	p.probe()
	p = behind(t, weeks(1), wrote(t, 99, "", first()...))
	p.same()
	p.probe()
}

// P20.1: whatever the text and the records are, of few commands: what is told, or ErrSum.
func TestOpenOfEachRow(t *testing.T) {
	some := []string{laid(sign, 0, 1, 0, 1, byDay, 1, 100, 1, 56), laid(closing, 0), laid(closing, 1), laid(bill, 0, 28, 5), laid(9), "\x07"}
	for n := range 7 * 7 * 7 * 7 {
		var row []string
		for left := n; left > 0; left /= 7 {
			if left%7 > 0 {
				row = append(row, some[left%7-1])
			}
		}
		for ahead := range len(row) + 1 {
			text := list(row[:ahead]...)
			m, want := newModel(weeks(3), 41, text, row[ahead:]...)
			k, errno := keep.Open(weeks(3), wrote(t, 41, text, row[ahead:]...))
			if errno != want || (k == nil) != (want != api.OK) {
				t.Fatalf("%q, %d: %t, %d, not %d", row, ahead, k == nil, errno, want)
			}
			if k != nil {
				mustBe(t, k, m)
			}
		}
	}
}

// P20.1: blocks that are turned by hand, bit by bit: what the journal tells of them, or its error.
func TestOpenOfTurnedBlocks(t *testing.T) {
	all := first()
	for _, s := range []*store.Store{wrote(t, 21, "", all[:5]...), wrote(t, 21, list(all[:5]...), all[5], all[6])} {
		for at := range s.Blocks() {
			b, _ := s.Read(at)
			for bit := range store.Size * 8 {
				turned := []byte(b)
				turned[bit/8] ^= 1 << (bit % 8)
				holdTurned(t, s, at, string(turned))
			}
		}
	}
}

// holdTurned holds what is opened of a store with another block.
func holdTurned(t *testing.T, s *store.Store, at int, b string) {
	t.Helper()
	one, two := copyOf(t, s), copyOf(t, s)
	one.Write(at, b)
	two.Write(at, b)
	k, errno := keep.Open(weeks(4), one)
	j, want := journal.Open(two)
	var m *model
	if want == api.OK {
		m, want = newModel(weeks(4), two.Blocks(), j.Text(), j.Records()...)
	}
	if errno != want || (k == nil) != (want != api.OK) || look(one) != look(two) {
		t.Fatalf("block %d, %q: %t, %d, not %d", at, b, k == nil, errno, want)
	}
	if k != nil {
		mustBe(t, k, m)
	}
}
