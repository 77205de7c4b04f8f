package codec

import (
	"strings"

	"quitrent/api"
)

// A number's bytes have so many bits of it each, and more is told by all but the last one.
const (
	bits = 7
	more = 1 << bits
)

// longest is how many bytes a number has at most.
const longest = (64 + bits - 1) / bits

// lastOne is the greatest last byte of a longest number, as there is no room for more in 64 bits.
const lastOne = 1<<(64-(longest-1)*bits) - 1

// whole is whatever kind of number is laid.
type whole interface{ int | int64 }

// laid tells the bytes of numbers, one behind the other.
func laid[N whole](numbers ...N) string {
	var b strings.Builder
	for _, n := range numbers {
		b.WriteString(Number(int64(n)))
	}
	return b.String()
}

// Number tells a number's bytes.
func Number(n int64) string {
	var b []byte
	u := folded(n)
	for u >= more {
		b = append(b, byte(u)|more)
		u >>= bits
	}
	return string(append(b, byte(u)))
}

// Take tells the number that bytes begin with.
func Take(s string) (int64, int, api.Errno) {
	u := uint64(0)
	for i := range min(len(s), longest) {
		u |= uint64(s[i]%more) << (i * bits)
		if s[i] >= more {
			continue
		}
		if wasteful(s[:i+1]) || beyond(s[:i+1]) {
			break
		}
		return unfolded(u), i + 1, api.OK
	}
	return 0, 0, api.ErrForm
}

// wasteful tells whether a number is laid in more bytes than it needs.
func wasteful(b string) bool { return len(b) > 1 && b[len(b)-1] == 0 }

// beyond tells whether bytes, of a longest number at most, tell more than 64 bits.
func beyond(b string) bool { return len(b) == longest && b[longest-1] > lastOne }

// folded tells a number by one without a sign, so that one of small size has few bytes, whatever its sign.
func folded(n int64) uint64 {
	if n < 0 {
		return uint64(-(n+1))*2 + 1 // less 1 ahead of the doubling, as the least number has none of the other sign
	}
	return uint64(n) * 2
}

// unfolded tells the number that was folded.
func unfolded(u uint64) int64 {
	n := int64(u / 2)
	if u%2 == 1 {
		return -n - 1
	}
	return n
}
