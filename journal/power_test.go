package journal_test

import (
	"slices"
	"strings"
	"testing"

	"quitrent/api"
	"quitrent/journal"
	"quitrent/store"
)

// tears are how many bytes of the block in flight are written.
var tears = []int{0, 1, 63, 64}

// The order of the writes, written out: what is behind, the second block on, and the first one twice.
func TestOrderOfWrites(t *testing.T) {
	left := full("\xff")
	b := mixed(150)
	idle, counts := laid(b, 0), laid(b, 1)
	text := row("text")[0]
	for name, c := range map[string]struct {
		f    shelf
		call call
		want []write
	}{
		"others behind": {shelf{zeros, text, zeros, left, left, left, left, zeros, zeros, zeros, zeros, zeros, zeros}, call{'a', b},
			[]write{{5, zeros}, {3, idle[1]}, {4, idle[2]}, {2, idle[0]}, {2, counts[0]}}},
		"a byte behind": {shelf{zeros, text, zeros, zeros, zeros, zeros[1:] + "\x01", left, zeros, zeros, zeros, zeros, zeros, zeros}, call{'a', b},
			[]write{{5, zeros}, {3, idle[1]}, {4, idle[2]}, {2, idle[0]}, {2, counts[0]}}},
		"bytes 0 behind": {shelf{zeros, text, zeros, left, left, zeros, left, left, left, left, left, left, left}, call{'a', b},
			[]write{{3, idle[1]}, {4, idle[2]}, {2, idle[0]}, {2, counts[0]}}},
		"none behind": {shelf{zeros, text, zeros, left, left, left, left, left, left, left}, call{'a', b},
			[]write{{3, idle[1]}, {4, idle[2]}, {2, idle[0]}, {2, counts[0]}}},
		"one block": {shelf{zeros, text, zeros, left, left, left, left}, call{'a', ""},
			[]write{{3, zeros}, {2, zeros}, {2, row("")[0]}}},
		"there": {shelf{zeros, text, zeros, zeros, zeros, left, left, left, left}, call{'s', b},
			[]write{{8, zeros}, {6, idle[1]}, {7, idle[2]}, {5, idle[0]}, {5, counts[0]}, {0, one}}},
		"back": {shelf{one, left, left, left, left, text, zeros, left, left}, call{'s', b},
			[]write{{4, zeros}, {2, idle[1]}, {3, idle[2]}, {1, idle[0]}, {1, counts[0]}, {0, zeros}}},
		"there, none behind": {shelf{zeros, text, zeros, zeros, left, left, left, left}, call{'s', b},
			[]write{{5, idle[1]}, {6, idle[2]}, {4, idle[0]}, {4, counts[0]}, {0, one}}},
		"back, bytes 0 behind": {shelf{one, left, zeros, left, text, zeros, left, left}, call{'s', ""},
			[]write{{1, zeros}, {1, row("")[0]}, {0, zeros}}},
	} {
		if !holdCall(t, c.f, c.call, c.want) {
			t.Fatalf("%s", name)
		}
	}
}

// holdCall lets the power go at each write of a call, and behind all of them, and asks for what each one leaves, and for what is told behind a restart.
func holdCall(t *testing.T, f shelf, c call, writes []write) bool {
	t.Helper()
	for at := range len(writes) + 1 {
		for _, bytes := range tears {
			s := newStore(t, f)
			j := mustOpen(t, s)
			was := s.Writes()
			s.Fuse(at, bytes)
			want := api.ErrDown
			if at == len(writes) {
				want = api.OK
			}
			holdDo(t, j, c, want)
			left := f.torn(writes, at, bytes)
			holdBlocks(t, s, left)
			if s.Writes()-was != at {
				t.Errorf("%d writes, not %d", s.Writes()-was, at)
			}
			whole := at == len(writes) || at == len(writes)-1 && bytes > 0
			holdBehind(t, f, c, whole, left.told())
			if want == api.OK {
				holdTold(t, j, left.told())
			} else {
				holdBroken(t, s, j, left)
			}
			if t.Failed() {
				t.Errorf("%c of %d bytes, the power gone behind %d writes and %d bytes", c.name, len(c.b), at, bytes)
				return false
			}
		}
	}
	return true
}

// holdBehind holds what is kept against the promise: what was there, and the call's bytes, if they came whole.
func holdBehind(t *testing.T, f shelf, c call, whole bool, is told) {
	t.Helper()
	want := f.told().all
	if whole && c.name == 's' {
		want = []string{c.b}
	} else if whole {
		want = append(want, c.b)
	}
	if !slices.Equal(is.all, want) {
		t.Errorf("what is kept: %.99q, not %.99q", is.all, want)
	}
}

// holdBroken asks a broken journal for ErrDown, whatever it is given and whether there is power, and the store for what it keeps, opened as often as one likes.
func holdBroken(t *testing.T, s *store.Store, j *journal.Journal, left shelf) {
	t.Helper()
	for _, power := range []bool{false, true, true} {
		if power {
			s.Restart()
		}
		writes := s.Writes()
		for _, b := range []string{"", "more", mixed(40000), strings.Repeat("x", 40001)} {
			holdDo(t, j, call{'a', b}, api.ErrDown)
			holdDo(t, j, call{'s', b}, api.ErrDown)
		}
		holdTold(t, mustOpen(t, s), left.told())
		holdBlocks(t, s, left)
		if s.Writes() != writes {
			t.Errorf("%d writes of what is broken, or opened again", s.Writes()-writes)
		}
	}
}

// event is a call ahead of which a fuse is laid, if its writes aren't below 0.
type event struct {
	call         call
	writes, torn int
}

// lived tells the blocks behind events; behind each one at which the power went there is a restart, and the store is opened again.
func lived(t *testing.T, blocks int, events ...event) shelf {
	t.Helper()
	s := newStore(t, empty(blocks))
	j := mustOpen(t, s)
	for _, e := range events {
		s.Fuse(e.writes, e.torn)
		if do(j, e.call) == api.ErrDown {
			s.Restart()
			j = mustOpen(t, s)
		}
	}
	return look(s)
}

// lives are stores that journals alone wrote.
func lives(t *testing.T) map[string]shelf {
	t.Helper()
	fine := func(name byte, long int) event { return event{call{name, mixed(long)}, -1, 0} }
	gone := func(name byte, long, writes, torn int) event { return event{call{name, mixed(long)}, writes, torn} }
	all := map[string]shelf{
		"there":                  lived(t, 17, fine('a', 70), fine('s', 80), fine('a', 9)),
		"there and back":         lived(t, 17, fine('a', 400), fine('s', 200), fine('a', 100), fine('s', 3)),
		"there, back and there":  lived(t, 17, fine('a', 400), fine('s', 0), fine('a', 121), fine('a', 200), fine('s', 300), fine('s', 0), fine('a', 1)),
		"full":                   lived(t, 17, fine('a', 7*64-7)),
		"full there":             lived(t, 18, fine('a', 300), fine('s', 8*64-7)),
		"a record's blocks left": lived(t, 17, gone('a', 400, 4, 9)),
		"records' blocks left":   lived(t, 17, gone('a', 400, 7, 0), gone('a', 100, 2, 63), gone('a', 0, 1, 1)),
		"a text's blocks left":   lived(t, 17, fine('a', 10), gone('s', 400, 8, 0), gone('a', 121, 3, 0)),
		"a text that doesn't count": lived(t, 17, fine('a', 10), fine('s', 0), fine('s', 1), gone('s', 300, 6, 0),
			gone('a', 200, 0, 64)),
		"the end torn": lived(t, 17, fine('a', 400), fine('s', 300), fine('s', 0), gone('a', 1, 0, 5)),
	}
	for blocks := 3; blocks < 8; blocks++ {
		all["new, of "+strings.Repeat("|", blocks)] = lived(t, blocks)
	}
	return all
}

// P7.2, P7.3: the power goes at each write of each call, in stores of all kinds of lives.
func TestPowerGoesAtEachWrite(t *testing.T) {
	for name, f := range lives(t) {
		for _, long := range []int{0, 1, 57, 58, 121, 122, 300, 7*64 - 7, 7*64 - 6, 8*64 - 7} {
			for _, c := range []call{{'a', mixed(long)}, {'s', mixed(long)}, {'a', strings.Repeat("\x01", long)}, {'s', strings.Repeat("\x00", long)}} {
				writes, errno := f.calling(c)
				if errno != api.OK {
					s := newStore(t, f)
					holdDo(t, mustOpen(t, s), c, errno)
					holdBlocks(t, s, f)
				} else {
					holdCall(t, f, c, writes)
				}
				if t.Failed() {
					t.Fatalf("%s, %c of %d bytes", name, c.name, long)
				}
			}
		}
	}
}

// P7.3: the power goes at the writes of a record of 40000 bytes.
func TestPowerGoesAtAGreatRecord(t *testing.T) {
	f := shelved(1255, 1, row("text"))
	f[628] = full("\xff")
	for _, c := range []call{{'a', mixed(40000)}, {'s', mixed(40000)}} {
		writes, errno := f.calling(c)
		if errno != api.OK || len(writes) < 627 {
			t.Fatalf("%d writes, error %d", len(writes), errno)
		}
		for _, at := range []int{0, 1, 2, 300, 623, 624, 625, 626, 627, 628} {
			if at >= len(writes) {
				continue
			}
			for _, bytes := range tears {
				s := newStore(t, f)
				j := mustOpen(t, s)
				s.Fuse(at, bytes)
				holdDo(t, j, c, api.ErrDown)
				left := f.torn(writes, at, bytes)
				s.Restart()
				holdBlocks(t, s, left)
				holdBehind(t, f, c, at == len(writes)-1 && bytes > 0, left.told())
				holdTold(t, mustOpen(t, s), left.told())
			}
		}
	}
}

// P7.1, P7.3: the power goes at each write of Open, again and again, and it is told the same then.
func TestPowerGoesAtOpen(t *testing.T) {
	garbage := "\x00" + full("\xff")[1:]
	for name, f := range map[string]shelf{
		"3":                   empty(3),
		"4":                   empty(4),
		"5":                   empty(5),
		"8":                   empty(8),
		"others behind":       {zeros, garbage, full("\xff"), zeros, zeros},
		"half 1":              {one, row("left")[0], zeros, garbage, full("\x02"), full("\x03")},
		"half 1, none behind": {one, row("left")[0], garbage, full("\x03")},
	} {
		writes, _ := f.opening()
		for at := range writes {
			for _, bytes := range tears {
				holdOpenTorn(t, f, at, bytes)
				if t.Failed() {
					t.Fatalf("%s, behind %d writes and %d bytes", name, at, bytes)
				}
			}
		}
	}
}

// holdOpenTorn lets the power go as a store is opened, and, behind a restart, as it is opened again, at each write, and asks for what is told at last.
func holdOpenTorn(t *testing.T, f shelf, at, bytes int) {
	t.Helper()
	writes, _ := f.opening()
	left := f.torn(writes, at, bytes)
	again, _ := left.opening()
	for second := range len(again) + 1 {
		for _, more := range tears {
			s := newStore(t, f)
			s.Fuse(at, bytes)
			if j, errno := journal.Open(s); j != nil || errno != api.ErrDown {
				t.Errorf("Open: %t, %d", j != nil, errno)
			}
			holdBlocks(t, s, left)
			s.Restart()
			s.Fuse(second, more)
			j, errno := journal.Open(s)
			if second < len(again) && (j != nil || errno != api.ErrDown) {
				t.Errorf("Open, again: %t, %d", j != nil, errno)
			}
			if second == len(again) && errno != api.OK {
				t.Errorf("Open, again: %d", errno)
			}
			holdBlocks(t, s, left.torn(again, second, more))
			s.Restart()
			for range 2 {
				hold(t, mustOpen(t, s), "", nil, f.size()-1)
			}
		}
	}
}

// P7.2: which error comes first: ErrDown of what is broken, ErrFull, and the store's error last; and ErrFull breaks nothing.
func TestWhichErrorComesFirst(t *testing.T) {
	s := newStore(t, empty(9))
	j := mustOpen(t, s)
	holdDo(t, j, call{'a', "r"}, api.OK)
	s.Fuse(0, 0)
	s.Write(8, zeros)
	for _, name := range []byte{'a', 's'} {
		for _, b := range []string{mixed(250), mixed(40000), strings.Repeat("x", 40001)} {
			holdDo(t, j, call{name, b}, api.ErrFull)
		}
	}
	s.Restart()
	holdDo(t, j, call{'a', "fine"}, api.OK)
	s.Fuse(0, 0)
	holdDo(t, j, call{'a', ""}, api.ErrDown)
	for _, restarted := range []bool{false, true} {
		if restarted {
			s.Restart()
		}
		for _, name := range []byte{'a', 's'} {
			for _, b := range []string{"", "r", mixed(250), mixed(40000), strings.Repeat("x", 40001)} {
				holdDo(t, j, call{name, b}, api.ErrDown)
			}
		}
	}
	hold(t, j, "", []string{"r", "fine"}, 1)
	again := mustOpen(t, s)
	holdDo(t, again, call{'a', "more"}, api.OK)
	holdDo(t, j, call{'s', "more"}, api.ErrDown)
	hold(t, mustOpen(t, s), "", []string{"r", "fine", "more"}, 0)
}

// A journal is broken by a write that had an error, of any of a call's writes, also where the store's power was gone ahead of it.
func TestBrokenWithoutPower(t *testing.T) {
	for _, c := range []call{{'a', ""}, {'a', mixed(100)}, {'s', ""}, {'s', mixed(100)}} {
		f := shelved(9, 1, row("text"))
		s := newStore(t, f)
		s.Fuse(0, 0)
		s.Write(8, zeros)
		j := mustOpen(t, s)
		holdDo(t, j, c, api.ErrDown)
		hold(t, j, "text", nil, 3)
		holdBroken(t, s, j, f)
	}
}

// P7.1 to P7.3, of every row of a few calls of each kind, in small stores.
func TestEveryRowOfCalls(t *testing.T) {
	kinds := []event{
		{call{'a', ""}, -1, 0}, {call{'a', mixed(58)}, -1, 0}, {call{'s', "t"}, -1, 0}, {call{'s', mixed(70)}, -1, 0},
		{call{'a', mixed(60)}, 1, 63}, {call{'a', "x"}, 1, 1}, {call{'s', mixed(90)}, 2, 1}, {call{'s', "y"}, 2, 0}, {call{'s', "z"}, 2, 1},
	}
	const long = 4
	rows := 1
	for range long {
		rows *= len(kinds)
	}
	for _, blocks := range []int{3, 5, 8} {
		for n := range rows {
			events := make([]event, long)
			for i := range events {
				events[i] = kinds[n%len(kinds)]
				n /= len(kinds)
			}
			holdEvents(t, blocks, events)
		}
	}
}

// P7.1 to P7.3, of long rows of calls.
func TestLongRowsOfCalls(t *testing.T) {
	number := random()
	for range 150 {
		blocks := 3 + number(60)
		events := make([]event, 120)
		for i := range events {
			long := number(200)
			if number(8) == 0 {
				long = number(32 * blocks)
			}
			e := event{call{'a', mixed(long + 7)[7:]}, -1, 0}
			if number(5) == 0 {
				e.call.name = 's'
			}
			if number(3) == 0 {
				e.writes, e.torn = number(8), number(66)
			}
			events[i] = e
		}
		holdEvents(t, blocks, events)
	}
}

// holdEvents holds a journal against the chapter's words behind each event, and, as the power goes, against the promise: what was told, and the call on its way, whole, or not at all.
func holdEvents(t *testing.T, blocks int, events []event) {
	t.Helper()
	s := newStore(t, empty(blocks))
	j := mustOpen(t, s)
	for i, e := range events {
		f := look(s)
		s.Fuse(e.writes, e.torn)
		writes, want := f.calling(e.call)
		whole := want == api.OK
		if whole && e.writes >= 0 && e.writes < len(writes) {
			whole = e.writes == len(writes)-1 && e.torn > 0
			want = api.ErrDown
			writes = writes[:e.writes+1]
			f = f.torn(writes, e.writes, min(e.torn, 64))
		} else {
			f = f.with(writes...)
		}
		was := told{all: append([]string{j.Text()}, j.Records()...)}
		holdDo(t, j, e.call, want)
		holdBlocks(t, s, f)
		if want == api.ErrDown {
			s.Restart()
			j = mustOpen(t, s)
		}
		s.Restart()
		holdTold(t, j, f.told())
		holdTold(t, mustOpen(t, s), f.told())
		switch {
		case whole && e.call.name == 's':
			was.all = []string{e.call.b}
		case whole:
			was.all = append(was.all, e.call.b)
		}
		hold(t, j, was.all[0], was.all[1:], j.Room())
		if t.Failed() {
			t.Fatalf("behind event %d: %c of %d bytes, fuse %d, %d", i, e.call.name, len(e.call.b), e.writes, e.torn)
		}
	}
}
