package store_test

import (
	"math"
	"slices"
	"strings"
	"testing"

	"quitrent/api"
	"quitrent/store"
)

// far are numbers at which sums and conversions wrap round.
func far() []int {
	return []int{math.MinInt, math.MinInt + 1, math.MinInt32 - 1, math.MinInt32, -1 << 32, -4097, -4096, -64,
		math.MaxInt32, math.MaxInt32 + 1, math.MaxUint32, 1 << 32, 1<<32 + 1, 1<<32 + 3, math.MaxInt - 1, math.MaxInt}
}

// full tells a block of one byte, over and over.
func full(c string) string { return strings.Repeat(c, 64) }

// counted tells a block whose bytes are all others, from a first one on.
func counted(from byte) string {
	b := make([]byte, 64)
	for i := range b {
		b[i] = from + byte(i)
	}
	return string(b)
}

func newStore(t *testing.T, blocks int) *store.Store {
	t.Helper()
	s, errno := store.New(blocks)
	if s == nil || errno != api.OK {
		t.Fatalf("New(%d): error %d", blocks, errno)
	}
	return s
}

func checkWrite(t *testing.T, s *store.Store, at int, b string, want api.Errno) {
	t.Helper()
	if got := s.Write(at, b); got != want {
		t.Errorf("Write(%d, %q): %d, not %d", at, b, got, want)
	}
}

func checkRead(t *testing.T, s *store.Store, at int, want string, wantErrno api.Errno) {
	t.Helper()
	if got, errno := s.Read(at); got != want || errno != wantErrno {
		t.Errorf("Read(%d): %q, %d, not %q, %d", at, got, errno, want, wantErrno)
	}
}

// checkBlocks holds all blocks against what they must be.
func checkBlocks(t *testing.T, s *store.Store, want []string) {
	t.Helper()
	if got := s.Blocks(); got != len(want) {
		t.Errorf("Blocks(): %d, not %d", got, len(want))
	}
	for at, b := range want {
		checkRead(t, s, at, b, api.OK)
	}
}

func checkWrites(t *testing.T, s *store.Store, want int) {
	t.Helper()
	if got := s.Writes(); got != want {
		t.Errorf("Writes(): %d, not %d", got, want)
	}
}

// zeros tells so many blocks of bytes 0.
func zeros(blocks int) []string { return slices.Repeat([]string{full("\x00")}, blocks) }

// The chapter's words on what a store has: blocks of 64 bytes.
func TestSize(t *testing.T) {
	if store.Size != 64 {
		t.Errorf("Size: %d", store.Size)
	}
}

// P5.1: New at the edges that are named, and the blocks of bytes 0 of what it makes.
func TestNew(t *testing.T) {
	for _, blocks := range []int{3, 4, 5, 64, 4095, 4096} {
		s := newStore(t, blocks)
		checkBlocks(t, s, zeros(blocks))
		checkWrites(t, s, 0)
	}
	for _, blocks := range append(far(), -3, -2, -1, 0, 1, 2, 4097, 4098, 1<<16+3) {
		if s, errno := store.New(blocks); s != nil || errno != api.ErrArg {
			t.Errorf("New(%d): %v, %d", blocks, s, errno)
		}
	}
}

// P5.1: a store that is made has power, and no fuse.
func TestNewHasPowerAndNoFuse(t *testing.T) {
	s := newStore(t, 3)
	for i := range 300 {
		checkWrite(t, s, i%3, counted(byte(i)), api.OK)
		checkRead(t, s, i%3, counted(byte(i)), api.OK)
	}
	checkWrites(t, s, 300)
}

// P5.1: Read of each block, and of none.
func TestRead(t *testing.T) {
	for _, blocks := range []int{3, 4, 4096} {
		s := newStore(t, blocks)
		want := zeros(blocks)
		for at := range want {
			want[at] = counted(byte(at * 7))
			checkWrite(t, s, at, want[at], api.OK)
		}
		checkBlocks(t, s, want)
		for _, at := range append(far(), -2, -1, blocks, blocks+1, 4096, 4097) {
			checkRead(t, s, at, "", api.ErrArg)
		}
	}
}

// P5.1: Read tells of blocks without power, too, and refuses the same ones.
func TestReadWithoutPower(t *testing.T) {
	s := newStore(t, 3)
	checkWrite(t, s, 2, full("a"), api.OK)
	s.Fuse(0, 3)
	checkWrite(t, s, 1, full("b"), api.ErrDown)
	checkBlocks(t, s, []string{full("\x00"), "bbb" + strings.Repeat("\x00", 61), full("a")})
	for _, at := range append(far(), -1, 3, 4) {
		checkRead(t, s, at, "", api.ErrArg)
	}
}

// P5.1, R5: what one store is told is none of another's.
func TestStoresAreApart(t *testing.T) {
	s, other := newStore(t, 3), newStore(t, 3)
	checkWrite(t, s, 0, full("s"), api.OK)
	s.Fuse(0, 64)
	checkWrite(t, s, 1, full("s"), api.ErrDown)
	checkBlocks(t, other, zeros(3))
	checkWrites(t, other, 0)
	checkWrite(t, other, 1, full("o"), api.OK)
	checkBlocks(t, s, []string{full("s"), full("s"), full("\x00")})
}

// P5.2: Write of the first and the last block, of bytes of any value, over what was; all others stay.
func TestWrite(t *testing.T) {
	s := newStore(t, 5)
	want := zeros(5)
	for i, at := range []int{0, 4, 2, 4, 0, 1, 3, 4} {
		want[at] = counted(byte(i * 32))
		checkWrite(t, s, at, want[at], api.OK)
		checkBlocks(t, s, want)
		checkWrites(t, s, i+1)
	}
	for at, b := range []string{full("\xff"), full("\x00"), strings.Repeat("\u00e4", 32)} {
		want[at] = b
		checkWrite(t, s, at, b, api.OK)
		checkBlocks(t, s, want)
	}
}

// wrong are writes to a store of three blocks that name no block, or whose bytes are no block's.
func wrong() (at []int, b []string) {
	for _, n := range append(far(), -2, -1, 3, 4, 4096) {
		at, b = append(at, n), append(b, full("w"))
	}
	for _, n := range []int{0, 1, 2, 63, 65, 66, 127, 128, 4096} {
		at, b = append(at, 0, 2, -1, 3), append(b, slices.Repeat([]string{strings.Repeat("w", n)}, 4)...)
	}
	return at, b
}

// P5.2: ErrArg: no such block, or not as many bytes; nothing is written or counted then, and no fuse burns.
func TestWriteRefused(t *testing.T) {
	s := newStore(t, 3)
	want := []string{full("x"), full("y"), full("z")}
	for i, b := range want {
		checkWrite(t, s, i, b, api.OK)
	}
	at, b := wrong()
	for _, writes := range []int{-1, 0, 1, 2} {
		s.Fuse(writes, 5)
		for i := range at {
			checkWrite(t, s, at[i], b[i], api.ErrArg)
		}
		checkBlocks(t, s, want)
		checkWrites(t, s, 3)
	}
	// The last fuse lets two writes be done, as it did ahead of those that were refused.
	checkWrite(t, s, 0, full("x"), api.OK)
	checkWrite(t, s, 1, full("y"), api.OK)
	checkWrite(t, s, 2, full("-"), api.ErrDown)
	want[2] = "-----" + strings.Repeat("z", 59)
	checkBlocks(t, s, want)
	checkWrites(t, s, 5)
}

// P5.2: what is no write is ErrArg also where a fuse would end, which it doesn't then, and where there is no power.
func TestWhichErrorComesFirst(t *testing.T) {
	at, b := wrong()
	s := newStore(t, 3)
	s.Fuse(0, 64)
	for i := range at {
		checkWrite(t, s, at[i], b[i], api.ErrArg)
	}
	checkBlocks(t, s, zeros(3))
	checkWrite(t, s, 1, full("a"), api.ErrDown)
	for i := range at {
		checkWrite(t, s, at[i], b[i], api.ErrArg)
	}
	checkWrite(t, s, 1, full("b"), api.ErrDown)
	checkBlocks(t, s, []string{full("\x00"), full("a"), full("\x00")})
	checkWrites(t, s, 0)
}

// P5.2, the chapter's example.
func TestExample(t *testing.T) {
	s := newStore(t, 3)
	s.Fuse(0, 2)
	checkWrite(t, s, 1, full("x"), api.ErrDown)
	checkBlocks(t, s, []string{full("\x00"), "xx" + strings.Repeat("\x00", 62), full("\x00")})
	checkWrites(t, s, 0)
}

// P5.2, P5.3: of the torn write as many bytes as the fuse tells: 0 of less, 64 of more.
func TestTorn(t *testing.T) {
	type tear struct{ torn, bytes int }
	tears := []tear{{-2, 0}, {-1, 0}, {65, 64}, {66, 64}, {128, 64}, {256, 64}, {257, 64}}
	for bytes := range 65 {
		tears = append(tears, tear{bytes, bytes})
	}
	for _, n := range far() {
		if n < 0 {
			tears = append(tears, tear{n, 0})
		} else {
			tears = append(tears, tear{n, 64})
		}
	}
	was, b := counted(0), counted(128)
	for _, x := range tears {
		for at := range 3 {
			s := newStore(t, 3)
			want := []string{was, was, was}
			for i := range want {
				checkWrite(t, s, i, was, api.OK)
			}
			s.Fuse(0, x.torn)
			checkWrite(t, s, at, b, api.ErrDown)
			want[at] = b[:x.bytes] + was[x.bytes:]
			checkBlocks(t, s, want)
			checkWrites(t, s, 3)
		}
	}
}

// P5.2, P5.3: a fuse lets as many writes be done as it tells, then one is torn, then there is no power.
func TestFuse(t *testing.T) {
	for _, writes := range []int{0, 1, 2, 3, 64, 1000} {
		s := newStore(t, 4)
		want := zeros(4)
		s.Fuse(writes, 7)
		for i := range writes {
			want[i%4] = counted(byte(i))
			checkWrite(t, s, i%4, want[i%4], api.OK)
		}
		checkBlocks(t, s, want)
		checkWrites(t, s, writes)
		for i := range 5 {
			if i == 0 {
				want[3] = "ttttttt" + want[3][7:]
			}
			checkWrite(t, s, 3-i%4, full("t"), api.ErrDown)
			checkBlocks(t, s, want)
			checkWrites(t, s, writes)
		}
	}
}

// P5.3: a fuse of less than 0 writes is none, and takes away what was laid.
func TestNoFuse(t *testing.T) {
	for _, none := range []int{-1, -2, math.MinInt32, math.MinInt + 1, math.MinInt} {
		for _, laid := range []int{-1, 0, 1, 2} {
			s := newStore(t, 3)
			s.Fuse(laid, 9)
			s.Fuse(none, 9)
			for i := range 100 {
				checkWrite(t, s, i%3, counted(byte(i)), api.OK)
			}
			checkBlocks(t, s, []string{counted(99), counted(97), counted(98)})
			checkWrites(t, s, 100)
		}
	}
}

// P5.3: a fuse of more writes than there are ever.
func TestLongFuse(t *testing.T) {
	for _, writes := range []int{math.MaxInt32, 1 << 32, math.MaxInt} {
		s := newStore(t, 3)
		s.Fuse(writes, 0)
		for i := range 100 {
			checkWrite(t, s, i%3, counted(byte(i)), api.OK)
		}
		checkWrites(t, s, 100)
	}
}

// P5.3: a fuse that is laid anew is that one, whatever was laid ahead of it.
func TestFuseAnew(t *testing.T) {
	for _, ahead := range []int{-1, 0, 1, 2, 9} {
		for _, writes := range []int{0, 1, 2} {
			s := newStore(t, 3)
			s.Fuse(ahead, 60)
			s.Fuse(writes, 1)
			for range writes {
				checkWrite(t, s, 0, full("a"), api.OK)
			}
			checkWrite(t, s, 1, full("b"), api.ErrDown)
			checkRead(t, s, 1, "b"+strings.Repeat("\x00", 63), api.OK)
			checkWrites(t, s, writes)
		}
	}
	s := newStore(t, 3)
	s.Fuse(1, 60)
	checkWrite(t, s, 0, full("a"), api.OK)
	s.Fuse(1, 2)
	checkWrite(t, s, 0, full("b"), api.OK)
	checkWrite(t, s, 0, full("c"), api.ErrDown)
	checkRead(t, s, 0, "cc"+strings.Repeat("b", 62), api.OK)
}

// P5.2, P5.3: without power nothing is written, and no fuse that is laid then brings it back, or burns.
func TestWithoutPower(t *testing.T) {
	s := newStore(t, 3)
	checkWrite(t, s, 0, full("a"), api.OK)
	s.Fuse(0, 4)
	checkWrite(t, s, 0, full("b"), api.ErrDown)
	want := []string{"bbbb" + strings.Repeat("a", 60), full("\x00"), full("\x00")}
	for _, writes := range []int{-1, 0, 1, 2} {
		s.Fuse(writes, 64)
		for at := range 3 {
			checkWrite(t, s, at, full("c"), api.ErrDown)
		}
		checkBlocks(t, s, want)
		checkWrites(t, s, 1)
	}
	s.Restart()
	checkBlocks(t, s, want)
	for range 10 {
		checkWrite(t, s, 1, full("d"), api.OK)
	}
	want[1] = full("d")
	checkBlocks(t, s, want)
	checkWrites(t, s, 11)
}

// P5.3: behind Restart there is power, and no fuse, whether the power was gone or not; blocks and Writes stay.
func TestRestart(t *testing.T) {
	for _, writes := range []int{-1, 0, 1, 2, 3} {
		s := newStore(t, 3)
		checkWrite(t, s, 2, full("a"), api.OK)
		s.Fuse(writes, 8)
		s.Restart()
		want := []string{full("\x00"), full("\x00"), full("a")}
		checkBlocks(t, s, want)
		checkWrites(t, s, 1)
		for i := range 6 {
			checkWrite(t, s, i%2, full("b"), api.OK)
		}
		checkBlocks(t, s, []string{full("b"), full("b"), full("a")})
		checkWrites(t, s, 7)
	}
	s := newStore(t, 3)
	for range 3 {
		s.Restart()
	}
	checkWrite(t, s, 0, full("a"), api.OK)
	checkBlocks(t, s, []string{full("a"), full("\x00"), full("\x00")})
}

// P5.3: a fuse that is laid behind Restart is one as at first.
func TestFuseBehindRestart(t *testing.T) {
	s := newStore(t, 3)
	want := zeros(3)
	for i := range 20 {
		s.Fuse(i%3, i)
		for range i % 3 {
			want[0] = counted(byte(i))
			checkWrite(t, s, 0, want[0], api.OK)
		}
		b := counted(byte(100 + i))
		checkWrite(t, s, 1, b, api.ErrDown)
		want[1] = b[:i] + want[1][i:]
		checkWrite(t, s, 2, b, api.ErrDown)
		checkBlocks(t, s, want)
		s.Restart()
		checkBlocks(t, s, want)
	}
	checkWrites(t, s, 6*(1+2)+1)
}

// P5.2, R3: what was read stays what it was, as its block is written and torn.
func TestWhatWasReadStays(t *testing.T) {
	s := newStore(t, 3)
	checkWrite(t, s, 1, full("a"), api.OK)
	was, _ := s.Read(1)
	checkWrite(t, s, 1, full("b"), api.OK)
	s.Fuse(0, 32)
	checkWrite(t, s, 1, full("c"), api.ErrDown)
	if was != full("a") {
		t.Errorf("what was read became %q", was)
	}
}
