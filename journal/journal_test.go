package journal_test

import (
	"slices"
	"strings"
	"testing"

	"quitrent/api"
	"quitrent/journal"
	"quitrent/store"
)

// P7.1: ErrArg: there is no store.
func TestOpenOfNil(t *testing.T) {
	if j, errno := journal.Open(nil); j != nil || errno != api.ErrArg {
		t.Errorf("Open(nil): %t, %d", j != nil, errno)
	}
}

// P7.1: a new store: nothing is laid as the text, in half 0, and nothing else is written.
func TestOpenOfANewStore(t *testing.T) {
	for blocks, room := range map[int]int{3: 0, 4: 0, 5: 1, 6: 1, 7: 2, 8: 2, 64: 30, 65: 31, 4095: 2046, 4096: 2046} {
		s := newStore(t, empty(blocks))
		j := mustOpen(t, s)
		hold(t, j, "", nil, room)
		holdBlocks(t, s, empty(blocks).with(write{1, "\x01" + zeros[1:]}))
		if s.Writes() != 2 {
			t.Errorf("%d blocks: %d writes", blocks, s.Writes())
		}
		again := mustOpen(t, s)
		hold(t, again, "", nil, room)
		if s.Writes() != 2 {
			t.Errorf("%d blocks, opened again: %d writes", blocks, s.Writes())
		}
	}
}

// P7.1: block 0's first byte: 0 and 1 tell the half, each other one is ErrSum.
func TestOpenOfEachFirstByte(t *testing.T) {
	for first := range 256 {
		f := empty(7)
		copy(f[1:], row("of half 0", "r"))
		copy(f[4:], row("of half 1"))
		f[0] = string([]byte{byte(first)}) + zeros[1:]
		s := newStore(t, f)
		switch first {
		case 0:
			hold(t, mustOpen(t, s), "of half 0", []string{"r"}, 1)
		case 1:
			hold(t, mustOpen(t, s), "of half 1", nil, 2)
		default:
			refuse(t, "another first byte", s, api.ErrSum)
		}
	}
}

// P7.1: ErrSum: another byte of block 0 isn't 0, each of them, whichever half counts.
func TestOpenOfOtherBytesInBlock0(t *testing.T) {
	for at := 1; at < 64; at++ {
		for _, x := range []string{"\x01", "\x20", "0", "\x80", "\xff"} {
			for _, first := range []string{zeros, one, full("\x02")[:1] + zeros[1:]} {
				f := shelved(7, 1, row("a"))
				copy(f[4:], row("b"))
				f[0] = first[:at] + x + first[at+1:]
				refuse(t, "another byte in block 0", newStore(t, f), api.ErrSum)
				refuse(t, "another byte in block 0 of no records", newStore(t, empty(3).with(write{0, f[0]})), api.ErrSum)
			}
		}
	}
}

// halves tells stores with a row of blocks as the half that counts, of 8 blocks: half 0 and half 1, with nothing in the other one, and with records or what is corrupt.
func halves(row []string) map[string]shelf {
	all := map[string]shelf{}
	for name, other := range map[string][]string{"empty": nil, "records": slices.Repeat(laid("other", 1), 8), "corrupt": slices.Repeat([]string{full("\xff")}, 8)} {
		zero, first := shelved(17, 1, row), shelved(17, 9, row)
		copy(zero[9:], other)
		copy(first[1:9], other)
		first[0] = one
		all["half 0, the other one "+name] = zero
		all["half 1, the other one "+name] = first
		all["half 1, a block left over, the other one "+name] = append(slices.Clone(first), full("\xff"))
	}
	return all
}

// P7.1: records up to a block whose mark is 0, or the half's end.
func TestOpenTellsRecords(t *testing.T) {
	long := mixed(7*64 + 57)
	garbage := "\x00" + full("\xff")[1:]
	for name, c := range map[string]struct {
		row  []string
		all  []string
		room int
	}{
		"nothing":                     {row(""), []string{""}, 7},
		"a text":                      {row("text"), []string{"text"}, 7},
		"a text and a record":         {row("text", "r"), []string{"text", "r"}, 6},
		"records of nothing":          {row("", "", ""), []string{"", "", ""}, 5},
		"57 and 58 bytes":             {row(mixed(57), mixed(58)), []string{mixed(57), mixed(58)}, 5},
		"58 and 57 bytes":             {row(mixed(58), mixed(57)), []string{mixed(58), mixed(57)}, 5},
		"bytes 0":                     {row(zeros, full("\x01"), zeros), []string{zeros, full("\x01"), zeros}, 2},
		"full, by one":                {row(long), []string{long}, 0},
		"full, by eight":              {row("", "1", "2", "3", "4", "5", "6", "7"), []string{"", "1", "2", "3", "4", "5", "6", "7"}, 0},
		"full, by two":                {row(long[:57], long[:6*64+57]), []string{long[:57], long[:6*64+57]}, 0},
		"full, the last one of two":   {row(long[:5*64+57], long[:64+57]), []string{long[:5*64+57], long[:64+57]}, 0},
		"full, but for one":           {row("", "1", "2", "3", "4", "5", "6"), []string{"", "1", "2", "3", "4", "5", "6"}, 1},
		"records behind a mark 0":     {append(row("text", "r"), append([]string{garbage}, row("left")...)...), []string{"text", "r"}, 6},
		"records behind bytes 0":      {append(row("text"), append([]string{zeros}, row("left")...)...), []string{"text"}, 7},
		"a record whose mark is 0":    {append(row("text"), laid("left", 0)...), []string{"text"}, 7},
		"marks inside of a record":    {row("text", strings.Repeat("\x02", 200)), []string{"text", strings.Repeat("\x02", 200)}, 3},
		"what is corrupt behind it":   {append(row("text"), zeros, full("\xff"), full("\x02")), []string{"text"}, 7},
		"the mark 0, too many bytes":  {append(row("text"), raw(0, 40001, 0, "")...), []string{"text"}, 7},
		"the mark 0, another check":   {append(row("text"), raw(0, 1, 5, "x")...), []string{"text"}, 7},
		"the mark 0, beyond the half": {append(row("text"), raw(0, 40000, 0, "")...), []string{"text"}, 7},
	} {
		for which, f := range halves(c.row) {
			s := newStore(t, f)
			writes := s.Writes()
			hold(t, mustOpen(t, s), c.all[0], c.all[1:], c.room)
			holdBlocks(t, s, f)
			if s.Writes() != writes {
				t.Errorf("%s, %s: Open wrote", name, which)
			}
			if t.Failed() {
				t.Fatalf("%s, %s", name, which)
			}
		}
	}
}

// P7.1: ErrSum: what is corrupt in the half that counts, as the text, as the record behind it, and further behind.
func TestOpenOfWhatIsCorrupt(t *testing.T) {
	b := mixed(100)
	check := uint32(0)
	whole := laid(b, 1)
	for at := 3; at < 7; at++ {
		check = check<<8 | uint32(whole[0][at])
	}
	for name, blocks := range map[string][]string{
		"the mark 2":             raw(2, 0, 0, ""),
		"the mark 255":           raw(255, 0, 0, ""),
		"the mark 2, of bytes":   raw(2, 100, check, b),
		"40001 bytes":            raw(1, 40001, 0, ""),
		"65535 bytes":            raw(1, 65535, 0, ""),
		"beyond the half":        raw(1, 8*64-7+1, 0, ""),
		"40000 bytes":            raw(1, 40000, 0, ""),
		"another check":          raw(1, 100, check^1, b),
		"another check, highest": raw(1, 100, check^1<<31, b),
		"the check of nothing":   raw(1, 0, 1, ""),
		"another byte":           raw(1, 100, check, b[:99]+string([]byte{b[99] ^ 1})),
		"fewer bytes":            raw(1, 99, check, b),
		"more bytes":             raw(1, 101, check, b),
		"a byte behind":          raw(1, 100, check, b+"\x01"),
		"the last byte behind":   raw(1, 100, check, b+strings.Repeat("\x00", 20)+"\x80"),
		"nothing, a byte behind": raw(1, 0, 0, "\x01"),
	} {
		for which, ahead := range map[string][]string{"the text": nil, "a record": row("text"), "the last one": row("text", "", mixed(58))} {
			for where, f := range halves(append(slices.Clone(ahead), blocks...)) {
				refuse(t, name+", "+which+", "+where, newStore(t, f), api.ErrSum)
			}
		}
	}
}

// P7.1: ErrSum: a mark that is neither 0 nor 1, each of them, as the text, behind it, and in the half's last block.
func TestOpenOfEachMark(t *testing.T) {
	for mark := 2; mark < 256; mark++ {
		odd := raw(byte(mark), 0, 0, "")
		for _, ahead := range []int{0, 1, 7} {
			for name, f := range halves(append(row(slices.Repeat([]string{"r"}, ahead)...), odd...)) {
				refuse(t, name, newStore(t, f), api.ErrSum)
			}
		}
	}
}

// P7.1: ErrSum: a record that is whole, but ends beyond its half: in the other one, in the block that is left over.
func TestOpenOfARecordBeyondItsHalf(t *testing.T) {
	for blocks := 3; blocks < 12; blocks++ {
		size := (blocks - 1) / 2
		for ahead := range size {
			for more := size - ahead + 1; more <= size+3; more++ {
				many := slices.Concat(row(slices.Repeat([]string{"r"}, ahead)...), laid(mixed(more*64-7), 1))
				zero := shelved(blocks, 1, many)
				refuse(t, "half 0", newStore(t, zero), api.ErrSum)
				first := shelved(blocks, 1+size, many)
				first[0] = one
				refuse(t, "half 1", newStore(t, first), api.ErrSum)
			}
			fits := slices.Concat(row(slices.Repeat([]string{"r"}, ahead)...), laid(mixed((size-ahead)*64-7), 1))
			holdTold(t, mustOpen(t, newStore(t, shelved(blocks, 1, fits))), shelved(blocks, 1, fits).told())
			if t.Failed() {
				t.Fatalf("%d blocks, %d ahead", blocks, ahead)
			}
		}
	}
}

// P7.1: without records, nothing is laid from the half's first block on: over what is there, and with the block behind.
func TestOpenWithoutRecords(t *testing.T) {
	garbage := "\x00" + full("\xff")[1:]
	for name, row := range map[string][]string{
		"bytes 0":                  nil,
		"a mark 0":                 {garbage},
		"others behind":            {zeros, full("\xff"), full("\x02")},
		"a record behind":          append([]string{zeros}, row("left", "also")...),
		"a mark 0, a record":       append([]string{garbage}, row("left")...),
		"a byte behind":            {zeros, zeros[1:] + "\x01"},
		"others behind that alone": {garbage, zeros, full("\xff")},
	} {
		for which, f := range halves(row) {
			writes, _ := f.opening()
			s := newStore(t, f)
			was := s.Writes()
			hold(t, mustOpen(t, s), "", nil, 7)
			holdBlocks(t, s, f.with(writes...))
			if s.Writes()-was != len(writes) {
				t.Errorf("%d writes, not %d", s.Writes()-was, len(writes))
			}
			hold(t, mustOpen(t, s), "", nil, 7)
			if t.Failed() {
				t.Fatalf("%s, %s", name, which)
			}
		}
	}
}

// P7.1: without power: ErrSum ahead of the error of what is laid; and what is kept is told, as nothing is to be laid.
func TestOpenWithoutPower(t *testing.T) {
	for name, c := range map[string]struct {
		f    shelf
		want api.Errno
	}{
		"a new store":      {empty(5), api.ErrDown},
		"the least store":  {empty(3), api.ErrDown},
		"no records":       {empty(7).with(write{0, one}), api.ErrDown},
		"another block 0":  {empty(5).with(write{0, full("\x02")}), api.ErrSum},
		"another mark":     {empty(5).with(write{1, full("\x02")}), api.ErrSum},
		"beyond the half":  {shelved(5, 1, laid(mixed(200), 1)), api.ErrSum},
		"no room for more": {shelved(3, 1, row("text")), api.OK},
		"records":          {shelved(7, 1, row("text", "r")), api.OK},
	} {
		s := newStore(t, c.f)
		s.Fuse(0, 0)
		s.Write(2, full("x"))
		if c.want != api.OK {
			refuse(t, name, s, c.want)
			continue
		}
		j := mustOpen(t, s)
		holdTold(t, j, c.f.told())
		holdBlocks(t, s, c.f)
	}
}

// P7.1: a store that no function of its package made has no block 0: ErrSum.
func TestOpenOfAnUnmadeStore(t *testing.T) {
	if j, errno := journal.Open(new(store.Store)); j != nil || errno != api.ErrSum {
		t.Errorf("Open of an unmade store: %t, %d", j != nil, errno)
	}
}

// P7.2: what Text, Records and Room tell behind each call, with the store's blocks.
func TestAppendAndSnap(t *testing.T) {
	s := newStore(t, empty(11))
	j := mustOpen(t, s)
	hold(t, j, "", nil, 4)
	long := mixed(58)
	for i, c := range []struct {
		call    call
		errno   api.Errno
		text    string
		records []string
		room    int
	}{
		{call{'a', "a"}, api.OK, "", []string{"a"}, 3},
		{call{'a', long}, api.OK, "", []string{"a", long}, 1},
		{call{'a', long}, api.ErrFull, "", []string{"a", long}, 1},
		{call{'a', ""}, api.OK, "", []string{"a", long, ""}, 0},
		{call{'a', ""}, api.ErrFull, "", []string{"a", long, ""}, 0},
		{call{'s', mixed(314)}, api.ErrFull, "", []string{"a", long, ""}, 0},
		{call{'s', "text"}, api.OK, "text", nil, 4},
		{call{'a', "b"}, api.OK, "text", []string{"b"}, 3},
		{call{'s', long}, api.OK, long, nil, 3},
		{call{'a', "c"}, api.OK, long, []string{"c"}, 2},
		{call{'s', ""}, api.OK, "", nil, 4},
		{call{'s', mixed(313)}, api.OK, mixed(313), nil, 0},
		{call{'a', ""}, api.ErrFull, mixed(313), nil, 0},
		{call{'s', mixed(313)}, api.OK, mixed(313), nil, 0},
		{call{'s', "again"}, api.OK, "again", nil, 4},
	} {
		f := look(s)
		writes, errno := f.calling(c.call)
		if errno != c.errno {
			t.Fatalf("call %d: %d, not %d, by the model", i, errno, c.errno)
		}
		was := s.Writes()
		holdDo(t, j, c.call, c.errno)
		hold(t, j, c.text, c.records, c.room)
		holdBlocks(t, s, f.with(writes...))
		if s.Writes()-was != len(writes) {
			t.Errorf("%d writes, not %d", s.Writes()-was, len(writes))
		}
		hold(t, mustOpen(t, s), c.text, c.records, c.room)
		if t.Failed() {
			t.Fatalf("behind call %d", i)
		}
	}
}

// P7.2: halves that have just enough blocks, and one too few, of records at the edges of blocks and of Most.
func TestJustEnoughBlocks(t *testing.T) {
	for long, need := range map[int]int{0: 1, 1: 1, 56: 1, 57: 1, 58: 2, 121: 2, 122: 3, 39993: 625, 39994: 626, 39999: 626, 40000: 626} {
		for left := range 2 {
			holdFits(t, call{'s', mixed(long)}, 1+2*need+left, 0)
			holdFits(t, call{'a', mixed(long)}, 1+2*(need+1)+left, 0)
			holdFits(t, call{'s', mixed(long)}, 1+2*(need+5)+left, 5)
			holdFits(t, call{'a', mixed(long)}, 1+2*(need+6)+left, 5)
			if need > 1 {
				holdTooFew(t, call{'s', mixed(long)}, 1+2*(need-1)+left)
			}
			holdTooFew(t, call{'a', mixed(long)}, 1+2*need+left)
		}
	}
}

// holdFits asks a new store of so many blocks for a call that leaves so many.
func holdFits(t *testing.T, c call, blocks, room int) {
	t.Helper()
	s := newStore(t, empty(blocks))
	j := mustOpen(t, s)
	holdDo(t, j, c, api.OK)
	for range 2 {
		if c.name == 's' {
			hold(t, j, c.b, nil, room)
		} else {
			hold(t, j, "", []string{c.b}, room)
		}
		j = mustOpen(t, s)
	}
}

// holdTooFew asks a new store of so many blocks for a call for which it has no room: nothing is changed, and others are done.
func holdTooFew(t *testing.T, c call, blocks int) {
	t.Helper()
	s := newStore(t, empty(blocks))
	j := mustOpen(t, s)
	was, writes := look(s), s.Writes()
	holdDo(t, j, c, api.ErrFull)
	holdBlocks(t, s, was)
	if s.Writes() != writes {
		t.Errorf("%c of %d bytes wrote", c.name, len(c.b))
	}
	holdDo(t, j, call{'s', "fits"}, api.OK)
	hold(t, j, "fits", nil, (blocks-1)/2-1)
}

// P7.2: ErrFull: more bytes than a record may have, however much room there is.
func TestMoreThanMost(t *testing.T) {
	s := newStore(t, empty(4096))
	j := mustOpen(t, s)
	holdDo(t, j, call{'a', "r"}, api.OK)
	was, writes := look(s), s.Writes()
	for _, long := range []int{40001, 40002, 40057, 65535, 65536, 65537, 1 << 20} {
		holdDo(t, j, call{'a', strings.Repeat("x", long)}, api.ErrFull)
		holdDo(t, j, call{'s', strings.Repeat("x", long)}, api.ErrFull)
	}
	holdBlocks(t, s, was)
	if s.Writes() != writes {
		t.Errorf("%d writes more", s.Writes()-writes)
	}
	holdDo(t, j, call{'a', mixed(40000)}, api.OK)
	hold(t, j, "", []string{"r", mixed(40000)}, 2045-626)
	holdDo(t, j, call{'s', mixed(40000)}, api.OK)
	hold(t, j, mixed(40000), nil, 2047-626)
	hold(t, mustOpen(t, s), mixed(40000), nil, 2047-626)
}

// P7.2: a half that is filled up record by record, up to its last block, of each kind of store.
func TestFilledUp(t *testing.T) {
	for blocks := 3; blocks < 40; blocks++ {
		s := newStore(t, empty(blocks))
		j := mustOpen(t, s)
		for round := range 3 {
			var records []string
			text := j.Text()
			for j.Room() > 0 {
				b := strings.Repeat(string([]byte{byte(len(records))}), 40*(len(records)%3))
				want := api.OK
				if len(laid(b, 1)) > j.Room() {
					want = api.ErrFull
					holdDo(t, j, call{'a', b}, want)
					b = ""
				}
				holdDo(t, j, call{'a', b}, api.OK)
				records = append(records, b)
			}
			holdDo(t, j, call{'a', ""}, api.ErrFull)
			hold(t, j, text, records, 0)
			hold(t, mustOpen(t, s), text, records, 0)
			holdDo(t, j, call{'s', strings.Repeat("t", round)}, api.OK)
			hold(t, mustOpen(t, s), strings.Repeat("t", round), nil, (blocks-1)/2-1)
		}
		if t.Failed() {
			t.Fatalf("%d blocks", blocks)
		}
	}
}

// R3: what Records answers is new memory each time.
func TestRecordsAreNewMemory(t *testing.T) {
	s := newStore(t, empty(21))
	j := mustOpen(t, s)
	for _, b := range []string{"a", "b", "c"} {
		holdDo(t, j, call{'a', b}, api.OK)
	}
	for range 2 {
		got := j.Records()
		got[0], got[2] = "other", ""
		got = append(got, "more")
		if len(got) != 4 {
			t.Fatalf("%q", got)
		}
		hold(t, j, "", []string{"a", "b", "c"}, 6)
		holdDo(t, j, call{'a', "d"}, api.OK)
		hold(t, j, "", []string{"a", "b", "c", "d"}, 5)
		if got[3] != "more" {
			t.Errorf("a list that was told became %q", got)
		}
		holdDo(t, j, call{'s', ""}, api.OK)
		for _, b := range []string{"a", "b", "c"} {
			holdDo(t, j, call{'a', b}, api.OK)
		}
		j = mustOpen(t, s)
	}
}

// R5: journals of two stores have nothing in common.
func TestTwoStores(t *testing.T) {
	one, other := mustOpen(t, newStore(t, empty(9))), mustOpen(t, newStore(t, empty(11)))
	holdDo(t, one, call{'a', "one"}, api.OK)
	holdDo(t, other, call{'s', "other"}, api.OK)
	hold(t, one, "", []string{"one"}, 2)
	hold(t, other, "other", nil, 4)
}

// The chapter's example.
func TestExample(t *testing.T) {
	s := newStore(t, empty(5))
	mustOpen(t, s)
	if b, _ := s.Read(1); b != laid("", 1)[0] {
		t.Errorf("block 1: %q", b)
	}
}
