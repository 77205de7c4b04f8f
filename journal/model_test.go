package journal_test

import (
	"hash/crc32"
	"slices"
	"strings"
	"testing"

	"quitrent/api"
	"quitrent/journal"
	"quitrent/store"
)

// shelf is a store's blocks. What a journal does with them is told here by the chapter's words, each time from the blocks alone.
type shelf []string

// write is one block that is written.
type write struct {
	at int
	b  string
}

var (
	zeros = full("\x00")
	one   = "\x01" + zeros[1:] // block 0, where half 1 counts
)

// full tells a block of one byte, over and over.
func full(c string) string { return strings.Repeat(c, 64) }

// mixed tells bytes of all values, the same ones each time.
func mixed(long int) string {
	b := make([]byte, long)
	number := random()
	for i := range b {
		b[i] = byte(number(256))
	}
	return string(b)
}

// random tells numbers below a bound, the same ones each time.
func random() func(int) int {
	state := uint64(88172645463325252)
	return func(below int) int {
		state ^= state << 13
		state ^= state >> 7
		state ^= state << 17
		return int(state>>1) % below
	}
}

// raw tells blocks of whatever is told as mark, number and check, and of the bytes, with bytes 0 up to whole blocks.
func raw(mark byte, many int, check uint32, b string) []string {
	l := []byte{mark, byte(many >> 8), byte(many), byte(check >> 24), byte(check >> 16), byte(check >> 8), byte(check)}
	l = append(l, b...)
	for len(l)%64 != 0 {
		l = append(l, 0)
	}
	var blocks []string
	for from := 0; from < len(l); from += 64 {
		blocks = append(blocks, string(l[from:from+64]))
	}
	return blocks
}

// laid tells a record's blocks, with a mark.
func laid(b string, mark byte) []string {
	return raw(mark, len(b), crc32.ChecksumIEEE([]byte(b)), b)
}

// row tells the blocks of records, one behind the other.
func row(all ...string) []string {
	var blocks []string
	for _, b := range all {
		blocks = append(blocks, laid(b, 1)...)
	}
	return blocks
}

func (f shelf) size() int { return (len(f) - 1) / 2 }

// half tells the blocks of a half.
func (f shelf) half(which int) []string {
	if which == 0 {
		return f[1 : 1+f.size()]
	}
	return f[1+f.size() : 1+2*f.size()]
}

// with tells the blocks behind writes.
func (f shelf) with(writes ...write) shelf {
	behind := slices.Clone(f)
	for _, w := range writes {
		behind[w.at] = w.b
	}
	return behind
}

// torn tells the blocks as the power goes at one of the writes, behind so many bytes of it.
func (f shelf) torn(writes []write, at, bytes int) shelf {
	behind := f.with(writes[:at]...)
	if at < len(writes) {
		w := writes[at]
		behind[w.at] = w.b[:bytes] + behind[w.at][bytes:]
	}
	return behind
}

// told is what a journal tells.
type told struct {
	half    int
	used    int
	all     []string // the text, and the records; none, if there is no text
	room    int
	corrupt bool
}

// told tells what is kept.
func (f shelf) told() told {
	which := slices.Index([]string{zeros, one}, f[0])
	if which < 0 {
		return told{corrupt: true}
	}
	h := f.half(which)
	is := told{half: which}
	for is.used < len(h) && h[is.used][0] != 0 {
		first := h[is.used]
		many := int(first[1])*256 + int(first[2])
		blocks := (7 + many + 63) / 64
		if first[0] != 1 || many > 40000 || is.used+blocks > len(h) {
			return told{corrupt: true}
		}
		got := h[is.used : is.used+blocks]
		b := strings.Join(got, "")[7 : 7+many]
		if !slices.Equal(got, laid(b, 1)) {
			return told{corrupt: true}
		}
		is.all = append(is.all, b)
		is.used += blocks
	}
	is.room = len(h) - is.used
	return is
}

// laying tells the writes that lay bytes in a half, from a block on.
func (f shelf) laying(which, from int, b string) ([]write, api.Errno) {
	h := f.half(which)
	idle, counts := laid(b, 0), laid(b, 1)
	if len(b) > 40000 || from+len(idle) > len(h) {
		return nil, api.ErrFull
	}
	base := 1 + which*f.size() + from
	var writes []write
	if behind := from + len(idle); behind < len(h) && h[behind] != zeros {
		writes = append(writes, write{base + len(idle), zeros})
	}
	for i := 1; i < len(idle); i++ {
		writes = append(writes, write{base + i, idle[i]})
	}
	return append(writes, write{base, idle[0]}, write{base, counts[0]}), api.OK
}

// opening tells Open's writes.
func (f shelf) opening() ([]write, api.Errno) {
	is := f.told()
	if is.corrupt {
		return nil, api.ErrSum
	}
	if len(is.all) > 0 {
		return nil, api.OK
	}
	return f.laying(is.half, 0, "")
}

// appending tells Append's writes.
func (f shelf) appending(b string) ([]write, api.Errno) {
	is := f.told()
	return f.laying(is.half, is.used, b)
}

// snapping tells Snap's writes.
func (f shelf) snapping(b string) ([]write, api.Errno) {
	other := 1 - f.told().half
	writes, errno := f.laying(other, 0, b)
	if errno != api.OK {
		return nil, errno
	}
	return append(writes, write{0, []string{zeros, one}[other]}), api.OK
}

// calling tells the writes of a call.
func (f shelf) calling(c call) ([]write, api.Errno) {
	if c.name == 's' {
		return f.snapping(c.b)
	}
	return f.appending(c.b)
}

// call is an Append or a Snap of bytes.
type call struct {
	name byte
	b    string
}

func do(j *journal.Journal, c call) api.Errno {
	if c.name == 's' {
		return j.Snap(c.b)
	}
	return j.Append(c.b)
}

// newStore tells a store with those blocks.
func newStore(t *testing.T, f shelf) *store.Store {
	t.Helper()
	s, errno := store.New(len(f))
	if errno != api.OK {
		t.Fatalf("store.New(%d): %d", len(f), errno)
	}
	for at, b := range f {
		if b == zeros {
			continue
		}
		if errno := s.Write(at, b); errno != api.OK {
			t.Fatalf("Write(%d): %d", at, errno)
		}
	}
	return s
}

// empty tells so many blocks of bytes 0.
func empty(blocks int) shelf { return slices.Repeat(shelf{zeros}, blocks) }

// shelved tells so many blocks, with those from a first one on.
func shelved(blocks, first int, row []string) shelf {
	f := empty(blocks)
	copy(f[first:], row)
	return f
}

// look tells a store's blocks.
func look(s *store.Store) shelf {
	f := make(shelf, s.Blocks())
	for at := range f {
		f[at], _ = s.Read(at)
	}
	return f
}

func mustOpen(t *testing.T, s *store.Store) *journal.Journal {
	t.Helper()
	j, errno := journal.Open(s)
	if j == nil || errno != api.OK {
		t.Fatalf("Open: %t, error %d", j != nil, errno)
	}
	return j
}

// refuse asks for an error of Open, and that nothing was changed.
func refuse(t *testing.T, name string, s *store.Store, want api.Errno) {
	t.Helper()
	was, writes := look(s), s.Writes()
	j, errno := journal.Open(s)
	if j != nil || errno != want {
		t.Errorf("Open, %s: %t, error %d, not %d", name, j != nil, errno, want)
	}
	if !slices.Equal(look(s), was) || s.Writes() != writes {
		t.Errorf("Open, %s, changed the store", name)
	}
}

func hold(t *testing.T, j *journal.Journal, text string, records []string, room int) {
	t.Helper()
	if got := j.Text(); got != text {
		t.Errorf("Text: %d bytes, not %d: %.20q, not %.20q", len(got), len(text), got, text)
	}
	if got := j.Records(); !slices.Equal(got, records) {
		t.Errorf("Records: %.99q, not %.99q", got, records)
	}
	if got := j.Room(); got != room {
		t.Errorf("Room: %d, not %d", got, room)
	}
}

// holdTold asks a journal for what blocks tell.
func holdTold(t *testing.T, j *journal.Journal, is told) {
	t.Helper()
	if is.corrupt || len(is.all) == 0 {
		t.Fatalf("there is no text in %v", is)
	}
	hold(t, j, is.all[0], is.all[1:], is.room)
}

func holdBlocks(t *testing.T, s *store.Store, want shelf) {
	t.Helper()
	got := look(s)
	if len(got) != len(want) {
		t.Fatalf("%d blocks, not %d", len(got), len(want))
	}
	for at := range want {
		if got[at] != want[at] {
			t.Errorf("block %d: %q, not %q", at, got[at], want[at])
		}
	}
}

// holdDo asks for a call's answer, and, where that is an error, that nothing is told otherwise.
func holdDo(t *testing.T, j *journal.Journal, c call, want api.Errno) {
	t.Helper()
	text, records, room := j.Text(), j.Records(), j.Room()
	if got := do(j, c); got != want {
		t.Errorf("%c of %d bytes: %d, not %d", c.name, len(c.b), got, want)
	}
	if want != api.OK {
		hold(t, j, text, records, room)
	}
}
