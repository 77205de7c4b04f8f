package record_test

import (
	"hash/crc32"
	"math"
	"slices"
	"strings"
	"testing"

	"quitrent/api"
	"quitrent/record"
	"quitrent/store"
)

// raw tells blocks by the chapter's words, of whatever is told as mark, number and check, and of the bytes, with bytes 0 up to so many blocks.
func raw(mark byte, many int, check uint32, b string, blocks int) []string {
	l := []byte{mark, byte(many / 256), byte(many % 256),
		byte(check / (1 << 24)), byte(check / (1 << 16)), byte(check / (1 << 8)), byte(check)}
	l = append(l, b...)
	for len(l) < blocks*64 {
		l = append(l, 0)
	}
	var cut []string
	for from := 0; from < len(l); from += 64 {
		cut = append(cut, string(l[from:from+64]))
	}
	return cut
}

// wantBlocks tells a record's blocks by the chapter's words.
func wantBlocks(b string, mark byte) []string {
	blocks := 1
	for blocks*64 < 7+len(b) {
		blocks++
	}
	return raw(mark, len(b), crc32.ChecksumIEEE([]byte(b)), b, blocks)
}

// mustLay tells blocks that are no error.
func mustLay(t *testing.T, b string, mark bool) []string {
	t.Helper()
	blocks, errno := record.Lay(b, mark)
	if errno != api.OK {
		t.Fatalf("Lay of %d bytes, %t: error %d", len(b), mark, errno)
	}
	return blocks
}

func holdHead(t *testing.T, block string, mark bool, many int, errno api.Errno) {
	t.Helper()
	gotMark, gotMany, gotErrno := record.Head(block)
	if gotMark != mark || gotMany != many || gotErrno != errno {
		t.Errorf("Head of %q: %t, %d, %d, not %t, %d, %d", block, gotMark, gotMany, gotErrno, mark, many, errno)
	}
}

func holdJoin(t *testing.T, name string, blocks []string, b string, errno api.Errno) {
	t.Helper()
	kept := slices.Clone(blocks)
	if got, gotErrno := record.Join(blocks); got != b || gotErrno != errno {
		t.Errorf("Join, %s: %d bytes, error %d, not %d bytes, error %d", name, len(got), gotErrno, len(b), errno)
	}
	if !slices.Equal(blocks, kept) {
		t.Errorf("Join, %s, changed its blocks", name)
	}
}

// sizes are how many bytes a record has at the edges: of blocks that are full or just begun, and of numbers whose bytes turn over.
func sizes() []int {
	return []int{0, 1, 2, 56, 57, 58, 59, 120, 121, 122, 123, 185, 186, 249, 250, 255, 256, 257, 511, 512,
		4096, 32767, 32768, 39936, 39937, 39992, 39993, 39999, 40000}
}

// The chapter's words on a record's greatest size.
func TestMost(t *testing.T) {
	if record.Most != 40000 {
		t.Errorf("Most: %d", record.Most)
	}
}

// P6.1: Blocks at the edges that are named.
func TestBlocks(t *testing.T) {
	for _, c := range []struct{ bytes, want int }{
		{0, 1}, {1, 1}, {56, 1}, {57, 1}, {58, 2}, {120, 2}, {121, 2}, {122, 3}, {185, 3}, {186, 4},
		{39993, 625}, {39994, 626}, {39999, 626}, {40000, 626}, {40001, 0}, {40002, 0}, {40057, 0}, {65535, 0}, {65536, 0},
		{-1, 0}, {-2, 0}, {-6, 0}, {-7, 0}, {-8, 0}, {-57, 0}, {-64, 0}, {-40000, 0},
		{math.MaxInt32, 0}, {math.MinInt32, 0}, {1 << 32, 0}, {1<<32 + 57, 0}, {-1 << 32, 0},
		{math.MaxInt - 70, 0}, {math.MaxInt - 1, 0}, {math.MaxInt, 0}, {math.MinInt, 0}, {math.MinInt + 1, 0},
	} {
		if got := record.Blocks(c.bytes); got != c.want {
			t.Errorf("Blocks(%d): %d, not %d", c.bytes, got, c.want)
		}
	}
}

// P6.1: Blocks of each number: as few as hold the bytes and the seven ahead of them.
func TestBlocksOfEachNumber(t *testing.T) {
	want := 1
	for bytes := range 40001 {
		if bytes+7 > want*64 {
			want++
		}
		if got := record.Blocks(bytes); got != want {
			t.Fatalf("Blocks(%d): %d, not %d", bytes, got, want)
		}
	}
}

// P6.2: Lay, byte by byte.
func TestLay(t *testing.T) {
	zeros := strings.Repeat("\x00", 48)
	for _, c := range []struct {
		b    string
		mark bool
		want []string
	}{
		{"", true, []string{"\x01" + strings.Repeat("\x00", 63)}},
		{"", false, []string{strings.Repeat("\x00", 64)}},
		{"123456789", true, []string{"\x01\x00\x09\xCB\xF4\x39\x26123456789" + zeros}},
		{"123456789", false, []string{"\x00\x00\x09\xCB\xF4\x39\x26123456789" + zeros}},
	} {
		if got := mustLay(t, c.b, c.mark); !slices.Equal(got, c.want) {
			t.Errorf("Lay(%q, %t): %q, not %q", c.b, c.mark, got, c.want)
		}
	}
}

// P6.2: Lay of records of each size up to five blocks, and at the edges, with either mark, held against the chapter's words.
func TestLayOfEachSize(t *testing.T) {
	all := sizes()
	for long := range 320 {
		all = append(all, long)
	}
	for _, long := range all {
		for _, b := range []string{mixed(long), strings.Repeat("\x00", long), strings.Repeat("\xff", long)} {
			for mark, first := range map[bool]byte{false: 0, true: 1} {
				got := mustLay(t, b, mark)
				if !slices.Equal(got, wantBlocks(b, first)) {
					t.Errorf("Lay of %d bytes, %t, is none of the chapter's", long, mark)
				}
				if len(got) != record.Blocks(long) {
					t.Errorf("Lay of %d bytes: %d blocks", long, len(got))
				}
				if i := slices.IndexFunc(got, func(b string) bool { return len(b) != store.Size }); i >= 0 {
					t.Errorf("Lay of %d bytes: block %d has %d", long, i, len(got[i]))
				}
			}
		}
	}
}

// P6.2: ErrFull: more than Most bytes, with either mark.
func TestLayRefuses(t *testing.T) {
	for _, long := range []int{40001, 40002, 40057, 40064, 65535, 65536, 65537, 80000, 1 << 20} {
		for _, mark := range []bool{false, true} {
			if got, errno := record.Lay(strings.Repeat("f", long), mark); len(got) != 0 || errno != api.ErrFull {
				t.Errorf("Lay of %d bytes, %t: %d blocks, error %d", long, mark, len(got), errno)
			}
		}
	}
}

// P6.2: Head of what was laid.
func TestHead(t *testing.T) {
	for _, long := range sizes() {
		holdHead(t, mustLay(t, mixed(long), true)[0], true, long, api.OK)
		holdHead(t, mustLay(t, mixed(long), false)[0], false, 0, api.OK)
	}
}

// P6.2: Head of each number: ErrSum of more than Most, but with the mark 0 none is told.
func TestHeadOfEachNumber(t *testing.T) {
	for many := range 65536 {
		counting, idle := raw(1, many, 0, "", 1)[0], raw(0, many, 0, "", 1)[0]
		if many <= 40000 {
			holdHead(t, counting, true, many, api.OK)
		} else {
			holdHead(t, counting, false, 0, api.ErrSum)
		}
		holdHead(t, idle, false, 0, api.OK)
	}
}

// P6.2: Head asks nothing of what is behind the number.
func TestHeadOfOtherBytes(t *testing.T) {
	for _, behind := range []string{strings.Repeat("\xff", 61), strings.Repeat("\x00", 61), mixed(61)} {
		holdHead(t, "\x01\x9C\x40"+behind, true, 40000, api.OK)
		holdHead(t, "\x01\x00\x00"+behind, true, 0, api.OK)
		holdHead(t, "\x01\x9C\x41"+behind, false, 0, api.ErrSum)
		holdHead(t, "\x00\x9C\x41"+behind, false, 0, api.OK)
	}
}

// P6.2: ErrForm: a mark that is neither 0 nor 1, also where too many bytes are told.
func TestHeadOfEachMark(t *testing.T) {
	for mark := 2; mark < 256; mark++ {
		for _, many := range []int{0, 1, 40000, 40001, 65535} {
			holdHead(t, raw(byte(mark), many, 0, "", 1)[0], false, 0, api.ErrForm)
		}
	}
}

// P6.2: ErrForm: no block's size, also where too many bytes are told, or the mark is 0.
func TestHeadOfOtherSizes(t *testing.T) {
	for _, size := range []int{0, 1, 2, 3, 6, 7, 32, 63, 65, 66, 127, 128, 192, 40000} {
		for _, first := range []string{"\x00\x00\x00", "\x01\x00\x05", "\x01\x9C\x41", "\x02\x00\x00", "\xff\xff\xff"} {
			block := (first + strings.Repeat("\x00", 40000))[:size]
			holdHead(t, block, false, 0, api.ErrForm)
		}
	}
}

// P6.3: Join of blocks that weren't laid by Lay, but by the chapter's words.
func TestJoin(t *testing.T) {
	for _, long := range sizes() {
		for _, b := range []string{mixed(long), strings.Repeat("\x00", long), strings.Repeat("\xff", long)} {
			holdJoin(t, "as the chapter says", wantBlocks(b, 1), b, api.OK)
		}
	}
}

// P6.3: ErrForm: there are none, whether the list is empty or nil.
func TestJoinOfNone(t *testing.T) {
	holdJoin(t, "nil", nil, "", api.ErrForm)
	holdJoin(t, "an empty list", []string{}, "", api.ErrForm)
}

// P6.3: ErrForm: a block isn't of a block's size, wherever it stands, and whatever else is wrong.
func TestJoinOfOtherSizes(t *testing.T) {
	whole := wantBlocks(mixed(200), 1)
	over, idle, odd := slices.Clone(whole), slices.Clone(whole), slices.Clone(whole)
	over[0] = raw(1, 40001, 0, "", 1)[0]
	idle[0] = "\x00" + whole[0][1:]
	odd[0] = "\x02" + whole[0][1:]
	for name, blocks := range map[string][]string{"whole": whole, "over": over, "idle": idle, "odd": odd} {
		for at := range blocks {
			for _, size := range []int{0, 1, 63, 65, 128} {
				wrong := slices.Clone(blocks)
				wrong[at] = (wrong[at] + strings.Repeat("\x00", 64))[:size]
				holdJoin(t, name, wrong, "", api.ErrForm)
			}
		}
		// As many bytes as there must be, but cut at another place.
		wrong := slices.Clone(blocks)
		wrong[1], wrong[2] = wrong[1]+wrong[2][:1], wrong[2][1:]
		holdJoin(t, name+", cut elsewhere", wrong, "", api.ErrForm)
		holdJoin(t, name+", with an empty one more", append(slices.Clone(blocks), ""), "", api.ErrForm)
		holdJoin(t, name+", as one", []string{strings.Join(blocks, "")}, "", api.ErrForm)
	}
}

// P6.3: Head's error of the first block: ErrForm of another mark, ErrSum of more than Most bytes, also where there are not as many blocks.
func TestJoinTellsHeadsError(t *testing.T) {
	for mark := 2; mark < 256; mark++ {
		for _, many := range []int{0, 40000, 40001, 65535} {
			holdJoin(t, "another mark", raw(byte(mark), many, 0, "", 1), "", api.ErrForm)
		}
	}
	for _, many := range []int{40001, 40002, 40057, 40058, 65535} {
		for _, blocks := range []int{1, 2, 625, 626, 627, 1024} {
			holdJoin(t, "too many bytes told", raw(1, many, 0, "", blocks), "", api.ErrSum)
		}
		b := mixed(many)
		blocks := (many + 7 + 63) / 64
		holdJoin(t, "too many bytes", raw(1, many, crc32.ChecksumIEEE([]byte(b)), b, blocks), "", api.ErrSum)
	}
}

// P6.3: ErrForm: the mark is 0, whatever else is told.
func TestJoinOfTheMarkZero(t *testing.T) {
	for _, long := range sizes() {
		holdJoin(t, "mark 0", wantBlocks(mixed(long), 0), "", api.ErrForm)
	}
	for _, blocks := range []int{1, 2, 626, 1024} {
		holdJoin(t, "mark 0, too many bytes told", raw(0, 40001, 0, "", blocks), "", api.ErrForm)
		holdJoin(t, "mark 0, another check", raw(0, 57, 5, "", blocks), "", api.ErrForm)
		holdJoin(t, "bytes 0", raw(0, 0, 0, "", blocks), "", api.ErrForm)
	}
}

// P6.3: ErrForm: not as many blocks as are told, with a check that fits or another one.
func TestJoinOfOtherNumbers(t *testing.T) {
	for _, long := range sizes() {
		for _, b := range []string{mixed(long), strings.Repeat("\x00", long)} {
			blocks := wantBlocks(b, 1)
			zero := strings.Repeat("\x00", 64)
			holdJoin(t, "one too many", append(slices.Clone(blocks), zero), "", api.ErrForm)
			holdJoin(t, "twice", append(slices.Clone(blocks), blocks...), "", api.ErrForm)
			holdJoin(t, "one too few", blocks[:len(blocks)-1], "", api.ErrForm)
			holdJoin(t, "the first one missing", blocks[1:], "", api.ErrForm)
			wrong := slices.Clone(blocks)
			wrong[0] = wrong[0][:3] + "\x12\x34\x56\x78" + wrong[0][7:]
			holdJoin(t, "one too many, another check", append(wrong, zero), "", api.ErrForm)
			holdJoin(t, "one too few, another check", wrong[:len(blocks)-1], "", api.ErrForm)
		}
	}
	holdJoin(t, "one, of 40000 bytes", raw(1, 40000, 0, "", 1), "", api.ErrForm)
	holdJoin(t, "625, of 40000 bytes", raw(1, 40000, 0, "", 625), "", api.ErrForm)
	holdJoin(t, "627, of 40000 bytes", raw(1, 40000, 0, "", 627), "", api.ErrForm)
}

// P6.3: ErrSum: the check is of other bytes, or of as many more or less as the block holds.
func TestJoinOfOtherChecks(t *testing.T) {
	for _, long := range sizes() {
		b := mixed(long)
		blocks, check := len(wantBlocks(b, 1)), crc32.ChecksumIEEE([]byte(b))
		for bit := range 32 {
			holdJoin(t, "a bit of the check", raw(1, long, check^1<<bit, b, blocks), "", api.ErrSum)
		}
		holdJoin(t, "each bit of the check", raw(1, long, ^check, b, blocks), "", api.ErrSum)
		holdJoin(t, "the check, the lowest byte first", raw(1, long, check<<24|check>>8, b, blocks), "", errnoIf(check<<24|check>>8 != check))
	}
	b := mixed(58)
	for long := range 58 {
		holdJoin(t, "the check of less", raw(1, long, crc32.ChecksumIEEE([]byte(b[:long+1])), b[:long], 1), "", api.ErrSum)
	}
}

// errnoIf tells ErrSum, if something is wrong.
func errnoIf(wrong bool) api.Errno {
	if wrong {
		return api.ErrSum
	}
	return api.OK
}

// P6.3: ErrSum: what is behind isn't 0, each place of it, whatever stands there.
func TestJoinOfOthersBehind(t *testing.T) {
	for _, long := range []int{0, 1, 56, 58, 100, 120, 39999, 40000} {
		b := mixed(long)
		check := crc32.ChecksumIEEE([]byte(b))
		blocks := len(wantBlocks(b, 1))
		room := blocks*64 - 7 - long
		for at := range room {
			for _, x := range []string{"\x01", "\x20", "0", "\x80", "\xff"} {
				behind := strings.Repeat("\x00", at) + x
				holdJoin(t, "one behind", raw(1, long, check, b+behind, blocks), "", api.ErrSum)
			}
		}
		holdJoin(t, "all behind", raw(1, long, check, b+strings.Repeat("\xff", room), blocks), "", api.ErrSum)
	}
}

// P6.3: which error comes first, as the chapter orders them.
func TestWhichErrorComesFirst(t *testing.T) {
	long := strings.Repeat("x", 65)
	holdJoin(t, "a wrong size, another mark, too many bytes", []string{raw(2, 40001, 0, "", 1)[0], long}, "", api.ErrForm)
	holdJoin(t, "a wrong size, too many bytes", []string{raw(1, 40001, 0, "", 1)[0], long}, "", api.ErrForm)
	holdJoin(t, "a wrong size, another check", []string{raw(1, 100, 9, "", 1)[0], long}, "", api.ErrForm)
	holdJoin(t, "another mark, too many bytes", raw(2, 40001, 0, "", 626), "", api.ErrForm)
	holdJoin(t, "too many bytes, not as many blocks", raw(1, 40001, 0, "", 3), "", api.ErrSum)
	holdJoin(t, "mark 0, another check", raw(0, 3, 9, "abc", 1), "", api.ErrForm)
	holdJoin(t, "not as many blocks, another check", raw(1, 3, 9, "abc", 2), "", api.ErrForm)
	holdJoin(t, "not as many blocks, others behind", raw(1, 0, 0, "abc", 2), "", api.ErrForm)
	holdJoin(t, "another check, others behind", raw(1, 3, 9, "abcd", 1), "", api.ErrSum)
}

// The chapter's examples.
func TestExamples(t *testing.T) {
	if one, two := record.Blocks(57), record.Blocks(58); one != 1 || two != 2 {
		t.Errorf("Blocks of 57 and 58: %d, %d", one, two)
	}
}
