package record_test

import (
	"slices"
	"strings"
	"testing"

	"quitrent/api"
	"quitrent/record"
)

// turn tells blocks of which one byte, counted from the first one's first, is another one by these bits.
func turn(blocks []string, at int, bits byte) []string {
	turned := slices.Clone(blocks)
	b := []byte(turned[at/64])
	b[at%64] ^= bits
	turned[at/64] = string(b)
	return turned
}

// holdFound asks for an error of a record of which a byte is turned: of the mark ErrForm, of the check, the bytes and those behind ErrSum, of the number either one.
func holdFound(t *testing.T, blocks []string, at int, bits byte) {
	t.Helper()
	b, errno := record.Join(turn(blocks, at, bits))
	numbers := at == 1 || at == 2
	switch {
	case b == "" && at == 0 && errno == api.ErrForm:
	case b == "" && numbers && (errno == api.ErrForm || errno == api.ErrSum):
	case b == "" && at > 2 && errno == api.ErrSum:
	default:
		t.Errorf("byte %d of %d blocks turned by %02X: %d bytes, error %d", at, len(blocks), bits, len(b), errno)
	}
}

// P6.4: what was laid is joined.
func TestWhatWasLaidIsJoined(t *testing.T) {
	b := mixed(40000)
	all := sizes()
	for long := range 700 {
		all = append(all, long)
	}
	for long := 700; long < 40000; long += 997 {
		all = append(all, long)
	}
	for _, long := range all {
		for _, x := range []string{b[:long], b[40000-long:], strings.Repeat("\x00", long), strings.Repeat("\xff", long)} {
			holdJoin(t, "laid", mustLay(t, x, true), x, api.OK)
			holdJoin(t, "laid with the mark 0", mustLay(t, x, false), "", api.ErrForm)
		}
	}
}

// P6.4: with another mark only one byte is another one, the first.
func TestOnlyTheMarkIsAnother(t *testing.T) {
	for _, long := range sizes() {
		counting, idle := mustLay(t, mixed(long), true), mustLay(t, mixed(long), false)
		if counting[0][0] != 1 || idle[0][0] != 0 || !slices.Equal(turn(counting, 0, 1), idle) {
			t.Errorf("records of %d bytes with either mark are others in more than it", long)
		}
	}
}

// P6.4: each byte of a record that is turned, by each value, is found.
func TestEachByteTurned(t *testing.T) {
	for _, long := range []int{0, 1, 2, 56, 57, 58, 100, 121, 122, 127, 128, 249, 250, 255, 256, 300} {
		for _, b := range []string{mixed(long), strings.Repeat("\x00", long), strings.Repeat("\xff", max(long-2, 0)) + strings.Repeat("\x00", min(long, 2))} {
			blocks := mustLay(t, b, true)
			for at := range len(blocks) * 64 {
				for bits := 1; bits < 256; bits++ {
					holdFound(t, blocks, at, byte(bits))
				}
			}
		}
	}
}

// P6.4: bytes of great records that are turned are found.
func TestBytesOfGreatRecordsTurned(t *testing.T) {
	for _, long := range []int{39936, 39993, 39994, 40000} {
		blocks := mustLay(t, mixed(long), true)
		all := len(blocks) * 64
		for at := 0; at < all; at++ {
			if at >= 70 && at < all-70 && at%211 != 0 {
				continue
			}
			for _, bits := range []byte{0x01, 0x10, 0x80, 0xff} {
				holdFound(t, blocks, at, bits)
			}
		}
	}
}

// P6.3 ahead of P6.4: bytes 0 behind bytes whose check is FFFFFFFF leave it as it is (there is no rest that they could change). So where just the number of such a record is turned, within its blocks, the check is that of the bytes, and Join answers them, as P6.3 says.
func TestTheOneCheckThatZerosLeave(t *testing.T) {
	const b = "\xff\xff\xff\xff"
	blocks := mustLay(t, b, true)
	if record.Check(b) != 0xFFFFFFFF {
		t.Errorf("Check(%q): %08X", b, record.Check(b))
	}
	for many := 5; many <= 57; many++ {
		holdJoin(t, "more", turn(blocks, 2, byte(4^many)), b+strings.Repeat("\x00", many-4), api.OK)
	}
	for many := range 4 {
		holdJoin(t, "less", turn(blocks, 2, byte(4^many)), "", api.ErrSum)
	}
	for at := 3; at < 64; at++ {
		for bits := 1; bits < 256; bits++ {
			holdFound(t, blocks, at, byte(bits))
		}
	}
}

// R3, R4, R5: an answer is new memory, and the same calls answer the same.
func TestAnswersShareNothing(t *testing.T) {
	b := mixed(150)
	blocks := mustLay(t, b, true)
	want := slices.Clone(blocks)
	joined, _ := record.Join(blocks)
	blocks[0], blocks[2] = "", "other"
	if joined != b {
		t.Errorf("what was joined became %q", joined)
	}
	if again := mustLay(t, b, true); !slices.Equal(again, want) {
		t.Errorf("Lay, again: %q, not %q", again, want)
	}
	if got, errno := record.Join(want); got != b || errno != api.OK {
		t.Errorf("Join, again: %q, %d", got, errno)
	}
}
