package record_test

import (
	"hash/crc32"
	"math/bits"
	"strings"
	"testing"

	"quitrent/record"
)

// byBits tells the check by the chapter's words: the bits one by one, the lowest one of each byte first, divided by the polynomial of 04C11DB7.
func byBits(b string) uint32 {
	rest := uint32(0xFFFFFFFF)
	for i := range len(b) {
		for bit := range 8 {
			top := rest>>31 ^ uint32(b[i]>>bit&1)
			rest <<= 1
			if top == 1 {
				rest ^= 0x04C11DB7
			}
		}
	}
	return ^bits.Reverse32(rest)
}

// mixed tells bytes of all values, the same ones each time.
func mixed(long int) string {
	b := make([]byte, long)
	state := uint64(88172645463325252)
	for i := range b {
		state ^= state << 13
		state ^= state >> 7
		state ^= state << 17
		b[i] = byte(state >> 24)
	}
	return string(b)
}

func holdCheck(t *testing.T, b string) {
	t.Helper()
	got := record.Check(b)
	if want := byBits(b); got != want {
		t.Errorf("Check of %d bytes: %08X, not %08X by bits", len(b), got, want)
	}
	if want := crc32.ChecksumIEEE([]byte(b)); got != want {
		t.Errorf("Check of %d bytes: %08X, not %08X as published", len(b), got, want)
	}
}

// P6.1: Check, with numbers that stand written elsewhere.
func TestCheck(t *testing.T) {
	for _, c := range []struct {
		b    string
		want uint32
	}{
		{"", 0},
		{"123456789", 0xCBF43926},
		{"\x00", 0xD202EF8D},
		{"\xff", 0xFF000000},
		{"a", 0xE8B7BE43},
		{"abc", 0x352441C2},
		{"\x00\x00\x00\x00", 0x2144DF1C},
		{"\xff\xff\xff\xff", 0xFFFFFFFF},
		{"The quick brown fox jumps over the lazy dog", 0x414FA339},
	} {
		if got := record.Check(c.b); got != c.want {
			t.Errorf("Check(%q): %08X, not %08X", c.b, got, c.want)
		}
		holdCheck(t, c.b)
	}
}

// P6.1: Check of each byte, and of each pair of bytes.
func TestCheckOfEachByte(t *testing.T) {
	for one := range 256 {
		holdCheck(t, string([]byte{byte(one)}))
		for other := range 256 {
			holdCheck(t, string([]byte{byte(one), byte(other)}))
		}
	}
}

// P6.1: Check of rows of each length, and of more bytes than a record may have.
func TestCheckOfLongRows(t *testing.T) {
	b := mixed(1 << 20)
	for long := range 600 {
		holdCheck(t, b[long:2*long])
		holdCheck(t, strings.Repeat("\x00", long))
		holdCheck(t, strings.Repeat("\xff", long))
	}
	for _, long := range []int{39999, 40000, 40001, 65535, 65536, 65537, 1 << 20} {
		holdCheck(t, b[:long])
		holdCheck(t, strings.Repeat("\x00", long))
		holdCheck(t, strings.Repeat("\xff", long))
	}
	for at := range 64 {
		holdCheck(t, strings.Repeat("\x00", at)+"\x01"+strings.Repeat("\x00", 63-at))
	}
}

// R4, R5: Check answers the same, whatever was asked between.
func TestCheckAgain(t *testing.T) {
	for _, b := range []string{"", "123456789", mixed(1000)} {
		want := record.Check(b)
		record.Check("other bytes")
		if got := record.Check(b); got != want {
			t.Errorf("Check of %d bytes: %08X, then %08X", len(b), want, got)
		}
	}
}
