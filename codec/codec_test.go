package codec_test

import (
	"math"
	"slices"
	"strings"
	"testing"

	"quitrent/api"
	"quitrent/codec"
)

// holdPut holds that a command has bytes, those of the chapter's words, that it is read from them, and that it stays as it was.
func holdPut(t *testing.T, c codec.Command) string {
	t.Helper()
	kept := slices.Clone(c.Args)
	want := wantPut(c)
	s, errno := codec.Put(c)
	if s != want || errno != api.OK {
		t.Fatalf("Put of %d, %d: %q, %d, not %q", c.Kind, kept, s, errno, want)
	}
	if !slices.Equal(c.Args, kept) {
		t.Fatalf("Put of %d, %d changed it: %d", c.Kind, kept, c.Args)
	}
	holdRead(t, s, c, true)
	return s
}

// holdNoPut holds that a command has no bytes.
func holdNoPut(t *testing.T, c codec.Command) {
	t.Helper()
	kept := slices.Clone(c.Args)
	if s, errno := codec.Put(c); s != "" || errno != api.ErrForm {
		t.Fatalf("Put of %d, with %d Args: %q, %d", c.Kind, len(c.Args), s, errno)
	}
	if !slices.Equal(c.Args, kept) {
		t.Fatalf("Put of %d, with %d Args, changed it", c.Kind, len(c.Args))
	}
}

// holdRead holds what Read answers: that command, or that there is none.
func holdRead(t *testing.T, s string, c codec.Command, ok bool) {
	t.Helper()
	want := api.OK
	if !ok {
		c, want = codec.Command{}, api.ErrForm
	}
	if got, errno := codec.Read(s); got.Kind != c.Kind || !slices.Equal(got.Args, c.Args) || errno != want {
		t.Fatalf("Read of %d bytes, %.40q: %d, %d, %d, not %d, %d, %d", len(s), s, got.Kind, got.Args, errno, c.Kind, c.Args, want)
	}
}

// argLists are lists of numbers of each length that a command may have, and of all sizes.
func argLists() [][]int64 {
	var l [][]int64
	all, number := edges(), random()
	for long := range 65 {
		for range 4 {
			args := make([]int64, long)
			for i := range args {
				args[i] = all[number(len(all))]
			}
			l = append(l, args)
		}
		for _, n := range []int64{0, -1, 63, 64, math.MaxInt64, math.MinInt64} {
			l = append(l, slices.Repeat([]int64{n}, long))
		}
	}
	return l
}

// P8.1: Put, byte by byte, and Read of these.
func TestPut(t *testing.T) {
	for want, c := range map[string]codec.Command{
		"\x00\x00":                              {},
		"\x01\x00":                              {Kind: 1, Args: []int64{}},
		"\xff\x00":                              {Kind: 255},
		"\x80\x01\x00":                          {Kind: 128, Args: []int64{0}},
		"\x07\x03\x02\x01\x00":                  {Kind: 7, Args: []int64{1, -1, 0}},
		"\x07\x02\x80\x01\x7f":                  {Kind: 7, Args: []int64{64, -64}},
		"\x40\x40" + strings.Repeat("\x7e", 64): {Kind: 64, Args: slices.Repeat([]int64{63}, 64)},
		"\xff\x40" + strings.Repeat("\xff\xff\xff\xff\xff\xff\xff\xff\xff\x01", 64): {Kind: 255, Args: slices.Repeat([]int64{math.MinInt64}, 64)},
	} {
		if s := holdPut(t, c); s != want {
			t.Errorf("Put of %d, %d: %q, not %q", c.Kind, c.Args, s, want)
		}
	}
}

// P8.1: Put of each Kind, of those at both ends and beyond them.
func TestPutOfEachKind(t *testing.T) {
	for kind := range 256 {
		for _, args := range [][]int64{nil, {-5}, slices.Repeat([]int64{1000}, 64)} {
			holdPut(t, codec.Command{Kind: kind, Args: args})
		}
	}
	for _, kind := range []int{-1, -2, -127, -128, -255, -256, -257, 256, 257, 511, 512, 65536,
		math.MaxInt32, math.MinInt32, 1 << 32, 1<<32 + 1, math.MaxInt, math.MinInt, math.MinInt + 1} {
		for _, args := range [][]int64{nil, {-5}, slices.Repeat([]int64{1000}, 64), slices.Repeat([]int64{0}, 65)} {
			holdNoPut(t, codec.Command{Kind: kind, Args: args})
		}
	}
}

// P8.1: Put of Args of each length, and of more than there may be.
func TestPutOfArgs(t *testing.T) {
	for i, args := range argLists() {
		holdPut(t, codec.Command{Kind: i % 256, Args: args})
	}
	for _, long := range []int{65, 66, 127, 128, 255, 256, 257, 320, 65536, 1 << 20} {
		for _, kind := range []int{0, 1, 255, -1, 256} {
			holdNoPut(t, codec.Command{Kind: kind, Args: make([]int64, long)})
		}
	}
}

// P8.1: Put of each number at the edges, alone and among others.
func TestPutOfEachEdge(t *testing.T) {
	for _, n := range edges() {
		holdPut(t, codec.Command{Kind: 3, Args: []int64{n}})
		holdPut(t, codec.Command{Kind: 3, Args: []int64{n, 0, n, -1}})
	}
}

// P8.1: Read of no bytes, and of one: none.
func TestReadOfLessThanTwo(t *testing.T) {
	holdRead(t, "", codec.Command{}, false)
	for kind := range 256 {
		holdRead(t, string([]byte{byte(kind)}), codec.Command{}, false)
	}
}

// P8.1: Read of each number of Args that is told, with as many there, fewer and more.
func TestReadOfEachNumberOfArgs(t *testing.T) {
	for _, b := range []string{"\x00", "\x01", "\x80\x01"} {
		n, _ := wantTake(b)
		for told := range 256 {
			for _, there := range []int{0, 1, told - 2, told - 1, told, told + 1, told + 2, 63, 64, 65, 128, 255, 256} {
				if there < 0 {
					continue
				}
				s := "\x09" + string([]byte{byte(told)}) + strings.Repeat(b, there)
				ok := told == there && told <= 64
				holdRead(t, s, codec.Command{Kind: 9, Args: slices.Repeat([]int64{n}, there)}, ok)
			}
		}
	}
}

// P8.1, P8.3: Read of each few bytes: the only commands are those that have these.
func TestReadOfShortOnes(t *testing.T) {
	tail := append([]string{""}, every(1, allBytes())...)
	tail = append(tail, every(2, allBytes())...)
	for _, many := range []int{0, 1, 2, 3, 64, 65, 128, 255} {
		for _, behind := range tail {
			s := "\xc8" + string([]byte{byte(many)}) + behind
			c, ok := wantRead(s)
			holdRead(t, s, c, ok)
		}
	}
	for long := range 7 {
		for _, s := range every(long, "\x00\x01\x02\x7f\x80\x81\xff") {
			c, ok := wantRead(s)
			holdRead(t, s, c, ok)
		}
	}
}

func allBytes() string {
	b := make([]byte, 256)
	for i := range b {
		b[i] = byte(i)
	}
	return string(b)
}

// P8.1: Read of commands' bytes that are cut off, have one more, or another one.
func TestReadOfSpoiledOnes(t *testing.T) {
	for i, args := range argLists() {
		if len(args) > 4 && len(args) < 63 {
			continue
		}
		for _, s := range spoiled(wantPut(codec.Command{Kind: i % 256, Args: args})) {
			c, ok := wantRead(s)
			holdRead(t, s, c, ok)
		}
	}
}

// P8.1: Read of a number that is laid in more bytes than it needs, first, last and among others: none.
func TestReadOfWastefulNumbers(t *testing.T) {
	for _, n := range edges() {
		b := wantNumber(n)
		for by := range 4 {
			w := wasteful(n, by)
			holdRead(t, "\x01\x01"+w, codec.Command{Kind: 1, Args: []int64{n}}, by == 0)
			for _, s := range []string{w + b + b, b + w + b, b + b + w} {
				holdRead(t, "\x01\x03"+s, codec.Command{Kind: 1, Args: []int64{n, n, n}}, by == 0)
			}
		}
	}
}

// P8.1: Read of a number that is more than an int64 holds: none.
func TestReadOfTooGreatNumbers(t *testing.T) {
	for _, nine := range []string{strings.Repeat("\x80", 9), strings.Repeat("\xff", 9)} {
		for last := range 256 {
			s := "\x02\x02" + nine + string([]byte{byte(last)}) + "\x00"
			c, ok := wantRead(s)
			if ok != (last == 1) {
				t.Fatalf("The model: %q", s)
			}
			holdRead(t, s, c, ok)
		}
	}
}

// P8.1: Read of very many bytes: none.
func TestReadOfManyBytes(t *testing.T) {
	for _, b := range []string{"\x00", "\x01", "\x40", "\x80", "\xff"} {
		holdRead(t, strings.Repeat(b, 1<<22), codec.Command{}, false)
	}
}

// P8.3: no bytes are those of two commands.
func TestNoBytesAreThoseOfTwoCommands(t *testing.T) {
	owner := map[string]int{}
	numbers := []int64{0, 1, -1, 2, 63, 64, -64, -65, 8191, 8192, math.MaxInt64, math.MinInt64}
	var lists [][]int64
	for long := range 4 {
		for _, places := range every(long, allBytes()[:len(numbers)]) {
			args := make([]int64, long)
			for i := range args {
				args[i] = numbers[places[i]]
			}
			lists = append(lists, args)
		}
	}
	for _, kind := range []int{0, 1, 2, 127, 128, 255} {
		for i, args := range lists {
			s := holdPut(t, codec.Command{Kind: kind, Args: args})
			if other, ok := owner[s]; ok {
				t.Fatalf("%d, %d and command %d: %q", kind, args, other, s)
			}
			owner[s] = i
		}
	}
}

// R3: what is behind a command's Args stays as it was, and no answer changes with another.
func TestCommandsShareNothing(t *testing.T) {
	all := []int64{1, 2, 3, 4, 5}
	c := codec.Command{Kind: 5, Args: all[:3]}
	s := holdPut(t, c)
	if !slices.Equal(all, []int64{1, 2, 3, 4, 5}) {
		t.Errorf("Put changed what is behind: %d", all)
	}
	one, _ := codec.Read(s)
	one.Args[0] = 77
	one.Args = append(one.Args, 78)
	holdRead(t, s, c, true)
	all[0] = 99
	if s != "\x05\x03\x02\x04\x06" {
		t.Errorf("Put's answer changed: %q", s)
	}
}
