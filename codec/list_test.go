package codec_test

import (
	"math"
	"slices"
	"strings"
	"testing"

	"quitrent/api"
	"quitrent/codec"
)

const mostBytes = 1 << 20

// holdList holds that texts are told as one, by the chapter's words, that they are its parts, and that they stay as they were.
func holdList(t *testing.T, l []string) string {
	t.Helper()
	kept := slices.Clone(l)
	want := wantList(l)
	s, errno := codec.List(l)
	if s != want || errno != api.OK {
		t.Fatalf("List of %d texts: %d bytes, %.40q, %d, not %d, %.40q", len(l), len(s), s, errno, len(want), want)
	}
	if !slices.Equal(l, kept) {
		t.Fatalf("List of %d texts changed them", len(l))
	}
	holdParts(t, s, l, true)
	return s
}

// holdNoList holds that texts have no room.
func holdNoList(t *testing.T, l []string) {
	t.Helper()
	kept := slices.Clone(l)
	if s, errno := codec.List(l); s != "" || errno != api.ErrFull {
		t.Fatalf("List of %d texts: %d bytes, %d", len(l), len(s), errno)
	}
	if !slices.Equal(l, kept) {
		t.Fatalf("List of %d texts changed them", len(l))
	}
}

// holdParts holds what Parts answers: those texts, or that there are none.
func holdParts(t *testing.T, s string, l []string, ok bool) {
	t.Helper()
	want := api.OK
	if !ok {
		l, want = nil, api.ErrForm
	}
	if got, errno := codec.Parts(s); !slices.Equal(got, l) || errno != want {
		t.Fatalf("Parts of %d bytes, %.40q: %d texts, %d, not %d, %d", len(s), s, len(got), errno, len(l), want)
	}
}

// shared tells so many texts of so many bytes together, as even as may be.
func shared(texts, bytes int) []string {
	l := make([]string, texts)
	for i := range l {
		l[i] = strings.Repeat(string([]byte{byte(i)}), (bytes+texts-1-i)/texts)
	}
	return l
}

// P8.2: List, byte by byte, and Parts of these.
func TestList(t *testing.T) {
	for want, l := range map[string][]string{
		"\x00":                                   nil,
		"\x02\x00":                               {""},
		"\x04\x00\x00":                           {"", ""},
		"\x02\x02a":                              {"a"},
		"\x06\x02a\x00\x04bc":                    {"a", "", "bc"},
		"\x04\x04\x02a\x02\x00":                  {"\x02a", "\x00"},
		"\x02\x7e" + strings.Repeat("x", 63):     {strings.Repeat("x", 63)},
		"\x02\x80\x01" + strings.Repeat("x", 64): {strings.Repeat("x", 64)},
		"\x02\xfe\x7f" + strings.Repeat("x", 8191):     {strings.Repeat("x", 8191)},
		"\x02\x80\x80\x01" + strings.Repeat("x", 8192): {strings.Repeat("x", 8192)},
		"\x7e" + strings.Repeat("\x00", 63):            slices.Repeat([]string{""}, 63),
		"\x80\x01" + strings.Repeat("\x00", 64):        slices.Repeat([]string{""}, 64),
		"\xd0\x0f" + strings.Repeat("\x00", 1000):      slices.Repeat([]string{""}, 1000),
		"\x02\x06\xff\x00\x80":                         {"\xff\x00\x80"},
	} {
		if s := holdList(t, l); s != want {
			t.Errorf("List of %d texts: %.40q, not %.40q", len(l), s, want)
		}
	}
	holdList(t, []string{})
}

// P8.2: List of each number of texts, and of more than there may be.
func TestListOfEachNumberOfTexts(t *testing.T) {
	for many := range 1001 {
		holdList(t, slices.Repeat([]string{""}, many))
		holdList(t, shared(max(many, 1), 3*many))
	}
	for _, many := range []int{1001, 1002, 1024, 1256, 2000, 65536, 1 << 20} {
		holdNoList(t, slices.Repeat([]string{""}, many))
		holdNoList(t, slices.Repeat([]string{"x"}, many))
	}
}

// P8.2: List of as many bytes together as there may be, and of one more, by few texts and by many, with the one more in the first, the last, or alone.
func TestListOfMostBytes(t *testing.T) {
	for _, texts := range []int{1, 2, 3, 7, 64, 999, 1000} {
		l := shared(texts, mostBytes)
		holdList(t, l)
		if more := append(slices.Clone(l), "", ""); len(more) <= 1000 {
			holdList(t, more)
			holdList(t, append([]string{"", ""}, l...))
			holdNoList(t, append(slices.Clone(l), "x"))
			holdNoList(t, append([]string{"x"}, l...))
		}
		for _, at := range []int{0, texts / 2, texts - 1} {
			less, more := slices.Clone(l), slices.Clone(l)
			less[at], more[at] = less[at][1:], more[at]+"x"
			holdList(t, less)
			holdNoList(t, more)
		}
	}
}

// P8.2: List of far too many bytes: in one text, and in many; and of too many texts as well.
func TestListOfFarTooManyBytes(t *testing.T) {
	for _, long := range []int{mostBytes + 1, 2 * mostBytes, 1 << 26} {
		text := strings.Repeat("x", long)
		holdNoList(t, []string{text})
		holdNoList(t, []string{"", text, ""})
		holdNoList(t, slices.Repeat([]string{text}, 1000))
		holdNoList(t, slices.Repeat([]string{text}, 1001))
		holdNoList(t, append(slices.Repeat([]string{""}, 1000), text))
	}
}

// P8.2, P8.3: lists of texts of all sizes, there and back.
func TestListOfMany(t *testing.T) {
	number := random()
	for range 2000 {
		l := make([]string, number(20))
		for i := range l {
			b := make([]byte, number(1<<number(10)))
			for at := range b {
				b[at] = byte(number(256))
			}
			l[i] = string(b)
		}
		holdList(t, l)
	}
}

// P8.2: Parts of no bytes: none.
func TestPartsOfNoBytes(t *testing.T) { holdParts(t, "", nil, false) }

// P8.2: Parts of each number of texts that is told, with as many there, fewer and more.
func TestPartsOfEachNumberOfTexts(t *testing.T) {
	for _, told := range []int64{math.MinInt64, -1 << 32, -1001, -1000, -3, -2, -1, 0, 1, 2, 3, 63, 64, 999, 1000, 1001, 1002, 1256,
		65536, 1 << 31, 1 << 32, 1<<32 + 1, math.MaxInt64 - 1, math.MaxInt64} {
		for _, there := range []int{0, 1, 2, 3, 62, 63, 64, 65, 998, 999, 1000, 1001, 1002, 1003, 1256, 65536} {
			ok := told == int64(there) && told <= 1000
			holdParts(t, wantNumber(told)+strings.Repeat("\x00", there), slices.Repeat([]string{""}, there), ok)
			holdParts(t, wantNumber(told)+strings.Repeat("\x02a", there), slices.Repeat([]string{"a"}, there), ok)
		}
	}
}

// P8.2: Parts of texts that are told as longer or shorter than they are, or below 0.
func TestPartsOfEachLength(t *testing.T) {
	for _, told := range []int64{math.MinInt64, math.MinInt64 + 1, -1 << 32, -65, -64, -3, -2, -1, 0, 1, 2, 3, 4, 62, 63, 64, 65, 1000,
		1 << 20, 1<<20 + 1, 1 << 31, 1 << 32, 1<<32 + 3, math.MaxInt64 - 9, math.MaxInt64 - 1, math.MaxInt64} {
		for _, there := range []int{0, 1, 2, 3, 4, 62, 63, 64, 65, 1000} {
			ok, text := told == int64(there), strings.Repeat("\x00", there)
			holdParts(t, "\x02"+wantNumber(told)+text, []string{text}, ok)
			s := "\x04\x02a" + wantNumber(told) + text
			holdParts(t, s, []string{"a", text}, ok)
			l, may := wantParts("\x04" + wantNumber(told) + text + "\x02a")
			holdParts(t, "\x04"+wantNumber(told)+text+"\x02a", l, may)
		}
	}
}

// P8.2: Parts of numbers that are laid in more bytes than they need: how many texts, and of one how many bytes.
func TestPartsOfWastefulNumbers(t *testing.T) {
	for _, many := range []int64{0, 1, 2, 63, 64, 1000} {
		for by := range 10 {
			l := slices.Repeat([]string{""}, int(many))
			holdParts(t, wasteful(many, by)+strings.Repeat("\x00", int(many)), l, by == 0)
			text := strings.Repeat("x", int(many))
			holdParts(t, "\x02"+wasteful(many, by)+text, []string{text}, by == 0)
			holdParts(t, "\x04\x02a"+wasteful(many, by)+text, []string{"a", text}, by == 0)
		}
	}
}

// P8.2: Parts of texts that have as many bytes together as there may be, and one more.
func TestPartsOfMostBytes(t *testing.T) {
	for _, texts := range []int{1, 2, 3, 7, 64, 999, 1000} {
		l := shared(texts, mostBytes)
		holdParts(t, wantList(l), l, true)
		for _, at := range []int{0, texts / 2, texts - 1} {
			more := slices.Clone(l)
			more[at] += "x"
			holdParts(t, wantList(more), nil, false)
		}
		holdParts(t, wantList(shared(texts, 1<<24)), nil, false)
		holdParts(t, wantList(l)+"\x00", nil, false)
	}
	holdParts(t, wantList(shared(1001, mostBytes)), nil, false)
	holdParts(t, wantList(shared(1001, mostBytes+1)), nil, false)
}

// listsWithin tells the bytes of each list of texts of those bytes that has so many bytes at most.
func listsWithin(long int, bytes string) map[string][]string {
	all := map[string][]string{"\x00": nil}
	var texts []string
	for text := range long - 1 {
		texts = append(texts, every(text, bytes)...)
	}
	row := [][]string{nil}
	for len(row) > 0 {
		var next [][]string
		for _, l := range row {
			for _, s := range texts {
				one := append(slices.Clone(l), s)
				b := wantList(one)
				if len(b) > long {
					break
				}
				next = append(next, one)
				all[b] = one
			}
		}
		row = next
	}
	return all
}

// P8.2, P8.3: Parts of each few bytes: the only lists are those that have these.
func TestPartsOfShortOnes(t *testing.T) {
	for long := range 3 {
		for _, s := range every(long, allBytes()) {
			l, ok := wantParts(s)
			holdParts(t, s, l, ok)
		}
	}
	bytes := "\x00\x01\x02\x04\x06\x08\x7f\x80\xff"
	all := listsWithin(5, bytes)
	for long := range 6 {
		for _, s := range every(long, bytes) {
			l, ok := all[s]
			holdParts(t, s, l, ok)
		}
	}
}

// P8.2: Parts of lists' bytes that are cut off, have one more, or another one.
func TestPartsOfSpoiledOnes(t *testing.T) {
	for _, l := range [][]string{nil, {""}, {"", "", ""}, {"a", "", "bc"}, {"\x02a", "\x00", "\x80"}, {strings.Repeat("x", 63), "y"},
		{strings.Repeat("\x00", 64), ""}, {strings.Repeat("\x02", 130), "\x02"}, shared(64, 100), shared(70, 70)} {
		for _, s := range spoiled(wantList(l)) {
			parts, ok := wantParts(s)
			holdParts(t, s, parts, ok)
		}
	}
}

// P8.2: Parts of very many bytes that are no number, or tell far more than there is: none.
func TestPartsOfManyBytes(t *testing.T) {
	for _, b := range []string{"\x00", "\x01", "\x02", "\x7f", "\x80", "\xff"} {
		holdParts(t, strings.Repeat(b, 1<<24), nil, false)
		holdParts(t, wantNumber(1000)+strings.Repeat(b, 1<<22), nil, false)
	}
}

// P8.3: no bytes are those of two lists.
func TestNoBytesAreThoseOfTwoLists(t *testing.T) {
	owner := map[string][]string{}
	texts := []string{"", "\x00", "\x02", "a", "\x00\x00", "\x02a", "\x04\x00\x00", strings.Repeat("x", 64)}
	for long := range 6 {
		for _, places := range every(long, allBytes()[:len(texts)]) {
			l := make([]string, long)
			for i := range l {
				l[i] = texts[places[i]]
			}
			s := holdList(t, l)
			if other, ok := owner[s]; ok {
				t.Fatalf("%q and %q: %q", l, other, s)
			}
			owner[s] = l
		}
	}
}

// R3: what is behind texts stays as it was, and no answer changes with another.
func TestListsShareNothing(t *testing.T) {
	all := []string{"a", "b", "c"}
	s := holdList(t, all[:2])
	if !slices.Equal(all, []string{"a", "b", "c"}) {
		t.Errorf("List changed what is behind: %q", all)
	}
	one, _ := codec.Parts(s)
	one[0] = "z"
	one = append(one, "more")
	holdParts(t, s, []string{"a", "b"}, true)
	all[0] = "y"
	if s != "\x04\x02a\x02b" || one[1] != "b" {
		t.Errorf("an answer changed: %q, %q", s, one)
	}
}
