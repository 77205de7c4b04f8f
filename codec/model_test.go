package codec_test

import (
	"math"
	"math/big"
	"slices"
	"strings"

	"quitrent/codec"
)

// What follows tells all by the chapter's words, with numbers of any size.

// wantNumber tells a number's bytes.
func wantNumber(n int64) string {
	two, whole, one := big.NewInt(2), big.NewInt(n), big.NewInt(1)
	if whole.Sign() >= 0 {
		whole.Mul(whole, two)
	} else {
		whole.Mul(whole, two).Neg(whole).Sub(whole, one)
	}
	var b []byte
	for low := new(big.Int); ; {
		whole.DivMod(whole, big.NewInt(128), low)
		if whole.Sign() == 0 {
			return string(append(b, byte(low.Int64())))
		}
		b = append(b, byte(low.Int64())+128)
	}
}

// wantTake tells the number that bytes begin with, and how many these are: none of 0.
func wantTake(s string) (int64, int) {
	many := 0
	for many < len(s) && s[many] >= 128 {
		many++
	}
	if many == len(s) || many > 12 {
		return 0, 0
	}
	whole := new(big.Int)
	for i := many; i >= 0; i-- {
		whole.Mul(whole, big.NewInt(128)).Add(whole, big.NewInt(int64(s[i]%128)))
	}
	if whole.Bit(0) == 1 {
		whole.Add(whole, big.NewInt(1)).Neg(whole)
	}
	whole.Quo(whole, big.NewInt(2))
	if !whole.IsInt64() || wantNumber(whole.Int64()) != s[:many+1] {
		return 0, 0
	}
	return whole.Int64(), many + 1
}

// wantPut tells the bytes of a command that has some.
func wantPut(c codec.Command) string {
	s := string([]byte{byte(c.Kind), byte(len(c.Args))})
	for _, n := range c.Args {
		s += wantNumber(n)
	}
	return s
}

// wantRead tells the command of bytes, and whether there is one.
func wantRead(s string) (codec.Command, bool) {
	if len(s) < 2 || s[1] > 64 {
		return codec.Command{}, false
	}
	c, at := codec.Command{Kind: int(s[0])}, 2
	for len(c.Args) < int(s[1]) {
		n, many := wantTake(s[at:])
		if many == 0 {
			return codec.Command{}, false
		}
		c.Args = append(c.Args, n)
		at += many
	}
	if at != len(s) {
		return codec.Command{}, false
	}
	return c, true
}

// wantList tells texts as one, if they may be.
func wantList(l []string) string {
	var b strings.Builder
	b.WriteString(wantNumber(int64(len(l))))
	for _, text := range l {
		b.WriteString(wantNumber(int64(len(text))))
		b.WriteString(text)
	}
	return b.String()
}

// wantParts tells the texts of one, and whether there are some.
func wantParts(s string) ([]string, bool) {
	told, at := wantTake(s)
	if at == 0 || told < 0 || told > 1000 {
		return nil, false
	}
	var l []string
	together := 0
	for len(l) < int(told) {
		long, many := wantTake(s[at:])
		at += many
		if many == 0 || long < 0 || long > int64(len(s)-at) {
			return nil, false
		}
		l = append(l, s[at:at+int(long)])
		at += int(long)
		together += int(long)
	}
	if at != len(s) || together > 1<<20 {
		return nil, false
	}
	return l, true
}

// random tells numbers below a bound, the same ones each time.
func random() func(int) int {
	state := uint64(88172645463325252)
	return func(below int) int {
		state ^= state << 13
		state ^= state >> 7
		state ^= state << 17
		return int(state>>1) % below
	}
}

// edges are numbers at which bytes turn over: each power of 2 and its neighbours, of both signs, the greatest and the least.
func edges() []int64 {
	l := []int64{0, math.MaxInt64, math.MaxInt64 - 1, math.MaxInt64 - 2, math.MinInt64, math.MinInt64 + 1, math.MinInt64 + 2}
	for power := range 63 {
		for n := int64(1)<<power - 3; n <= int64(1)<<power+3; n++ {
			l = append(l, n, -n)
		}
	}
	slices.Sort(l)
	return slices.Compact(l)
}

// wasteful tells a number's bytes with so many more of them, which it doesn't need.
func wasteful(n int64, by int) string {
	b := []byte(wantNumber(n))
	for range by {
		b[len(b)-1] |= 128
		b = append(b, 0)
	}
	return string(b)
}

// spoiled tells what bytes become that are cut off, have one more, or one of another value, or one less.
func spoiled(s string) []string {
	l := []string{s + "\x00", s + "\x01", s + "\x80", s + s}
	for at := range len(s) {
		l = append(l, s[:at], s[at+1:], s[:at]+s[at+1:])
		for _, by := range []byte{1, 2, 3, 4, 64, 127, 128, 129, 255} {
			turned := string([]byte{s[at] ^ by})
			l = append(l, s[:at]+turned+s[at+1:], s[:at]+turned+s[at:])
		}
	}
	return l
}

// every tells each text of so many bytes, out of those given.
func every(long int, bytes string) []string {
	l := []string{""}
	for range long {
		var next []string
		for _, s := range l {
			for i := range len(bytes) {
				next = append(next, s+bytes[i:i+1])
			}
		}
		l = next
	}
	return l
}
