package keep_test

import (
	"strings"
	"testing"

	"quitrent/api"
	"quitrent/journal"
)

// P20.2: Snap of an engine that has done nothing: the list of none is the text.
func TestSnapOfNothing(t *testing.T) {
	for _, size := range []int{3, 4, 5, 6, 99, 4096} {
		p := newPair(t, weeks(4), size)
		for range 3 {
			if errno := p.snap(); errno != api.OK || p.k.Done() != nil {
				t.Fatalf("Snap: %d, %q", errno, p.k.Done())
			}
			if j, _ := journal.Open(p.s); j.Text() != "\x00" || len(j.Records()) != 0 {
				t.Fatalf("kept: %q, %q", j.Text(), j.Records())
			}
			p.same()
			p.back()
		}
		p.probe()
	}
}

// P20.2: Snap keeps what was done alone, byte by byte: literal bytes.
func TestSnapOfWhatWasDone(t *testing.T) {
	p := newPair(t, weeks(4), 19)
	for _, b := range []string{laid(closing, 1), laid(price, 0, 1, 5), "x", laid(closing, 0), laid(closing, 0)} {
		p.do(b)
	}
	if room := p.k.Room(); room != 4 {
		t.Fatalf("ahead: %d left", room)
	}
	if errno := p.snap(); errno != api.OK {
		t.Fatalf("Snap: %d", errno)
	}
	j, _ := journal.Open(p.s)
	if want := string([]byte{4, 10, 6, 3, 0, 2, 10, 6, 7, 1, 0}); j.Text() != want || len(j.Records()) != 0 {
		t.Fatalf("kept: %q, %q, not %q", j.Text(), j.Records(), want)
	}
	if room := p.k.Room(); room != 8 {
		t.Fatalf("behind: %d left", room)
	}
	p.same()
	p.back()
	p.probe()
}

// P20.2, P20.3: Snap behind each command, behind each of two, and twice in a row; all goes on the same.
func TestSnapBehindEach(t *testing.T) {
	for every := 1; every <= 4; every++ {
		p := newPair(t, weeks(4), 99)
		for i, b := range append(first(), laid(closing, 9), "", laid(closing, 1), laid(bill, 0, 60, 7)) {
			p.do(b)
			p.same()
			if i%every == 0 {
				for range 1 + i%2 {
					if errno := p.snap(); errno != api.OK {
						t.Fatalf("Snap: %d", errno)
					}
					p.same()
				}
			}
			if i%3 == 0 {
				p.back()
			}
			p.probe()
		}
	}
}

// P20.3: wherever it is snapped, and whether it is opened again then, the replies, what was done and the engine are those of one that wasn't.
func TestSnappedAnywhere(t *testing.T) {
	all := append(first(), laid(closing, 9), laid(bill, 7, 1, 1), laid(closing, 1), laid(bill, 0, 60, 7), laid(closing, 2))
	for at := range len(all) + 1 {
		for _, again := range []bool{false, true} {
			snapped, not := newPair(t, weeks(4), 199), newPair(t, weeks(4), 199)
			for i := range len(all) + 1 {
				if i == at {
					snapped.snap()
					if again {
						snapped.back()
					}
				}
				if i == len(all) {
					break
				}
				if got, want := snapped.do(all[i]), not.do(all[i]); got != want {
					t.Fatalf("snapped ahead of %d, command %d: %q, not %q", at, i, got, want)
				}
			}
			if got, want := state(snapped.k.Engine()), state(not.k.Engine()); got != want {
				t.Fatalf("snapped ahead of %d: %s, not %s", at, got, want)
			}
			snapped.back()
			not.back()
			snapped.probe()
		}
	}
}

// P20.2: Snap makes room, as what was refused goes, and what was done needs fewer bytes: stores of all sizes that are filled up again and again.
func TestSnapMakesRoom(t *testing.T) {
	for size := 3; size < 40; size++ {
		p := newPair(t, weeks(4), size)
		for range 4 {
			for i := 0; p.k.Room() > 0; i++ {
				p.do([]string{laid(closing, 9), laid(sign, 0, 1, 0, 1, byDay, 1, 60, 1, 56), laid(earned, 0, 0, 28), bytesOf(2)}[i%4])
			}
			p.must(laid(closing, 0), api.ErrFull)
			if errno := p.snap(); errno != api.OK {
				t.Fatalf("Snap of %d blocks: %d", size, errno)
			}
			p.same()
			p.back()
		}
		p.probe()
	}
}

// P20.2: Snap of a thousand commands, and ErrFull of one more; then all goes on as before.
func TestSnapOfManyCommands(t *testing.T) {
	p := newPair(t, weeks(4), 4096)
	p.do(laid(sign, 0, 1, 0, 1, byDay, 1, 60, 1, 56))
	for i := range 999 {
		p.must(laid(earned, 0, 0, int64(i)), api.OK, min(int64(i), 56)*60/56)
	}
	if errno := p.snap(); errno != api.OK || len(p.k.Done()) != 1000 {
		t.Fatalf("Snap of %d: %d", len(p.k.Done()), errno)
	}
	p.same()
	p.back()
	p.do(laid(closing, 9))
	if errno := p.snap(); errno != api.OK {
		t.Fatalf("Snap of %d, and one that was refused: %d", len(p.k.Done()), errno)
	}
	p.do(laid(bill, 0, 28, 5))
	for range 3 {
		was, writes, room := look(p.s), p.s.Writes(), p.k.Room()
		if errno := p.snap(); errno != api.ErrFull {
			t.Fatalf("Snap of %d: %d", len(p.k.Done()), errno)
		}
		if look(p.s) != was || p.s.Writes() != writes || p.k.Room() != room {
			t.Fatal("Snap that is refused wrote")
		}
		p.same()
		p.must(laid(earned, 0, 0, 28), api.OK, 30)
		p.same()
		p.back()
	}
	p.probe()
	p.s.Fuse(0, 0)
	p.s.Write(4095, strings.Repeat("x", 64))
	if got := p.k.Do(laid(closing, 0)); got != refused(api.ErrDown) {
		t.Fatalf("Do without power: %q", got)
	}
	if errno := p.k.Snap(); errno != api.ErrFull {
		t.Fatalf("Snap of %d, without power: %d", len(p.k.Done()), errno)
	}
}
