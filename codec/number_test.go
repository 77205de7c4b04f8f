package codec_test

import (
	"math"
	"slices"
	"strings"
	"testing"

	"quitrent/api"
	"quitrent/codec"
)

// holdTake holds what Take answers; of no bytes, that there is none.
func holdTake(t *testing.T, s string, n int64, many int) {
	t.Helper()
	want := api.OK
	if many == 0 {
		want = api.ErrForm
	}
	if got, gotMany, errno := codec.Take(s); got != n || gotMany != many || errno != want {
		t.Fatalf("Take of %d bytes, %.40q: %d, %d, %d, not %d, %d, %d", len(s), s, got, gotMany, errno, n, many, want)
	}
}

// P8.1: Number, byte by byte, and Take of these.
func TestNumber(t *testing.T) {
	for n, want := range map[int64]string{
		0:                 "\x00",
		-1:                "\x01",
		1:                 "\x02",
		-2:                "\x03",
		2:                 "\x04",
		63:                "\x7e",
		-64:               "\x7f",
		64:                "\x80\x01",
		-65:               "\x81\x01",
		65:                "\x82\x01",
		100:               "\xc8\x01",
		127:               "\xfe\x01",
		-128:              "\xff\x01",
		128:               "\x80\x02",
		8191:              "\xfe\x7f",
		-8192:             "\xff\x7f",
		8192:              "\x80\x80\x01",
		-8193:             "\x81\x80\x01",
		1<<62 - 1:         strings.Repeat("\xfe", 1) + strings.Repeat("\xff", 7) + "\x7f",
		-1 << 62:          strings.Repeat("\xff", 8) + "\x7f",
		1 << 62:           strings.Repeat("\x80", 9) + "\x01",
		-1<<62 - 1:        "\x81" + strings.Repeat("\x80", 8) + "\x01",
		math.MaxInt64 - 1: "\xfc" + strings.Repeat("\xff", 8) + "\x01",
		math.MinInt64 + 1: "\xfd" + strings.Repeat("\xff", 8) + "\x01",
		math.MaxInt64:     "\xfe" + strings.Repeat("\xff", 8) + "\x01",
		math.MinInt64:     strings.Repeat("\xff", 9) + "\x01",
	} {
		if got := codec.Number(n); got != want {
			t.Errorf("Number(%d): %q, not %q", n, got, want)
		}
		holdTake(t, want, n, len(want))
	}
}

// behinds are bytes that stand behind a number's, and aren't of it.
func behinds() []string {
	return []string{"", "\x00", "\x01", "\x7f", "\x80", "\xff", "\x80\x01", strings.Repeat("\xff", 20), strings.Repeat("x", 1000)}
}

// P8.1, P8.3: at each power of 2 and its neighbours: Number, there and back, with bytes behind, cut off, and laid in more bytes than it needs.
func TestNumberAtTheEdges(t *testing.T) {
	for _, n := range edges() {
		want := wantNumber(n)
		if got := codec.Number(n); got != want {
			t.Fatalf("Number(%d): %q, not %q", n, got, want)
		}
		for _, behind := range behinds() {
			holdTake(t, want+behind, n, len(want))
		}
		for cut := range len(want) {
			holdTake(t, want[:cut], 0, 0)
		}
		for by := 1; by < 14; by++ {
			holdTake(t, wasteful(n, by), 0, 0)
			holdTake(t, wasteful(n, by)+want, 0, 0)
		}
	}
}

// P8.1, P8.3: Number of each small one, there and back.
func TestNumberOfEachSmallOne(t *testing.T) {
	for n := int64(-1<<17 - 9); n < 1<<17+9; n++ {
		want := wantNumber(n)
		if got := codec.Number(n); got != want {
			t.Fatalf("Number(%d): %q, not %q", n, got, want)
		}
		holdTake(t, want, n, len(want))
	}
}

// P8.1, P8.3: numbers of all sizes, there and back.
func TestNumberOfMany(t *testing.T) {
	number := random()
	for i := range 100000 {
		n := int64(number(math.MaxInt)) >> (i % 64)
		for _, n := range []int64{n, -n, ^n} {
			want := wantNumber(n)
			if got := codec.Number(n); got != want {
				t.Fatalf("Number(%d): %q, not %q", n, got, want)
			}
			holdTake(t, want, n, len(want))
		}
	}
}

// P8.1: Take of no bytes, of each one and of each two: the only numbers are those whose bytes these begin with.
func TestTakeOfShortOnes(t *testing.T) {
	numbers := map[string]int64{}
	for n := int64(-8192); n < 8192; n++ {
		numbers[wantNumber(n)] = n
	}
	holdTake(t, "", 0, 0)
	for first := range 256 {
		for second := range 256 {
			s := string([]byte{byte(first), byte(second)})
			one, isOne := numbers[s[:1]]
			two, isTwo := numbers[s]
			switch {
			case isOne:
				holdTake(t, s[:1], one, 1)
				holdTake(t, s, one, 1)
			case isTwo:
				holdTake(t, s[:1], 0, 0)
				holdTake(t, s, two, 2)
			default:
				holdTake(t, s[:1], 0, 0)
				holdTake(t, s, 0, 0)
			}
		}
	}
}

// P8.1: Take of bytes of each length, out of those at which they turn over.
func TestTakeOfLongerOnes(t *testing.T) {
	for long := range 6 {
		for _, s := range every(long, "\x00\x01\x02\x3f\x7f\x80\x81\xff") {
			n, many := wantTake(s)
			holdTake(t, s, n, many)
		}
	}
	for long := range 14 {
		for _, head := range every(2, "\x00\x7f\x80\x81\xff") {
			for _, middle := range []string{"\x80", "\xff", "\xaa"} {
				for last := range 256 {
					s := head + strings.Repeat(middle, long) + string([]byte{byte(last)})
					n, many := wantTake(s)
					holdTake(t, s, n, many)
				}
			}
		}
	}
}

// P8.1: Take of ten bytes, of each last one: only 1 tells what an int64 holds; and of eleven, none.
func TestTakeOfTenBytes(t *testing.T) {
	for _, nine := range []string{strings.Repeat("\x80", 9), strings.Repeat("\xff", 9), "\xfe" + strings.Repeat("\xff", 8)} {
		holdTake(t, nine, 0, 0)
		for last := range 256 {
			ten := nine + string([]byte{byte(last)})
			n, many := int64(0), 0
			if last == 1 {
				n, many = map[string]int64{"\x80\x80": 1 << 62, "\xff\xff": math.MinInt64, "\xfe\xff": math.MaxInt64}[nine[:2]], 10
			}
			holdTake(t, ten, n, many)
			for _, behind := range []string{"\x00", "\x01", "\x80", "\xff"} {
				holdTake(t, ten+behind, n, many)
			}
		}
	}
	for _, long := range []int{10, 11, 12, 63, 64, 65, 1 << 20} {
		for _, b := range []string{"\x80", "\xff"} {
			holdTake(t, strings.Repeat(b, long), 0, 0)
			holdTake(t, strings.Repeat(b, long)+"\x01", 0, 0)
		}
	}
}

// P8.3: no bytes are those of two numbers, nor do those of one begin with another's.
func TestNoBytesAreThoseOfTwoNumbers(t *testing.T) {
	owner := map[string]int64{}
	numbers := edges()
	for n := int64(-20000); n <= 20000; n++ {
		numbers = append(numbers, n)
	}
	slices.Sort(numbers)
	numbers = slices.Compact(numbers)
	for _, n := range numbers {
		b := codec.Number(n)
		if other, ok := owner[b]; ok {
			t.Fatalf("%d and %d: %q", n, other, b)
		}
		owner[b] = n
	}
	for _, n := range numbers {
		b := codec.Number(n)
		for cut := range len(b) {
			if other, ok := owner[b[:cut]]; ok {
				t.Fatalf("%d begins with %d", n, other)
			}
		}
	}
}

// size tells a number's size, also that of the least one.
func size(n int64) uint64 {
	if n < 0 {
		return -uint64(n)
	}
	return uint64(n)
}

// P8.3: numbers of less size have no more bytes.
func TestNumbersOfLessSize(t *testing.T) {
	numbers := edges()
	slices.SortFunc(numbers, func(a, b int64) int {
		if size(a) != size(b) {
			if size(a) < size(b) {
				return -1
			}
			return 1
		}
		return len(codec.Number(a)) - len(codec.Number(b))
	})
	longest := 0
	for i, n := range numbers {
		long := len(codec.Number(n))
		for _, less := range numbers[:i] {
			if size(less) < size(n) && len(codec.Number(less)) > long {
				t.Fatalf("%d has %d bytes, %d has %d", less, len(codec.Number(less)), n, long)
			}
		}
		longest = max(longest, long)
	}
	if longest != 10 {
		t.Errorf("The longest has %d bytes", longest)
	}
}
