package store_test

import (
	"strings"
	"testing"

	"quitrent/api"
	"quitrent/store"
)

// model is a store by the chapter's words, told from the list of all that was asked of it since its start.
type model struct {
	blocks int
	calls  []call
}

// call is a Write, a Fuse or a Restart.
type call struct {
	name     byte
	at, torn int // a fuse's writes, as at
	b        string
}

// answer tells what the last call answers, what the blocks are behind it, and how many Writes were OK.
func (m model) answer() (errno api.Errno, blocks []string, writes int) {
	blocks = zeros(m.blocks)
	power, left, torn := true, -1, 0
	for _, c := range m.calls {
		errno = api.OK
		switch {
		case c.name == 'r':
			power, left = true, -1
		case c.name == 'f':
			left, torn = max(c.at, -1), c.torn
		case c.at < 0 || c.at >= m.blocks || len(c.b) != 64:
			errno = api.ErrArg
		case !power:
			errno = api.ErrDown
		case left == 0:
			errno, power = api.ErrDown, false
			blocks[c.at] = tornBlock(c.b, blocks[c.at], torn)
		default:
			blocks[c.at] = c.b
			writes++
			if left > 0 {
				left--
			}
		}
	}
	return errno, blocks, writes
}

// tornBlock tells a beginning of what was to be, with the end of what was.
func tornBlock(b, was string, torn int) string {
	var l strings.Builder
	for i := range 64 {
		if i < torn {
			l.WriteByte(b[i])
		} else {
			l.WriteByte(was[i])
		}
	}
	return l.String()
}

// do asks a store for a call.
func do(s *store.Store, c call) api.Errno {
	switch c.name {
	case 'r':
		s.Restart()
	case 'f':
		s.Fuse(c.at, c.torn)
	default:
		return s.Write(c.at, c.b)
	}
	return api.OK
}

// checkCalls holds a store against the model, behind each of some calls.
func checkCalls(t *testing.T, blocks int, calls []call) {
	t.Helper()
	s := newStore(t, blocks)
	for i, c := range calls {
		want, wantBlocks, wantWrites := model{blocks, calls[:i+1]}.answer()
		if got := do(s, c); got != want {
			t.Errorf("%c(%d, %d, %q): %d, not %d", c.name, c.at, c.torn, c.b, got, want)
		}
		checkBlocks(t, s, wantBlocks)
		checkWrites(t, s, wantWrites)
		if t.Failed() {
			t.Fatalf("behind %d of %v", i+1, calls)
		}
	}
}

// P5.1 to P5.4, of every row of a few calls of each kind.
func TestEveryRowOfCalls(t *testing.T) {
	kinds := []call{
		{'w', 0, 0, full("a")}, {'w', 2, 0, full("b")}, {'w', 3, 0, full("c")}, {'w', 0, 0, "short"},
		{'r', 0, 0, ""}, {'f', -1, 5, ""}, {'f', 0, 1, ""}, {'f', 1, 63, ""},
	}
	const long = 5
	rows := 1
	for range long {
		rows *= len(kinds)
	}
	for row := range rows {
		calls := make([]call, long)
		for i := range calls {
			calls[i] = kinds[row%len(kinds)]
			row /= len(kinds)
		}
		checkCalls(t, 3, calls)
	}
}

// random tells numbers below a bound, the same ones each time.
func random() func(int) int {
	state := uint64(88172645463325252)
	return func(below int) int {
		state ^= state << 13
		state ^= state >> 7
		state ^= state << 17
		return int(state>>1) % below
	}
}

// P5.1 to P5.4, of long rows of calls.
func TestLongRowsOfCalls(t *testing.T) {
	number := random()
	for range 60 {
		blocks := 3 + number(5)
		calls := make([]call, 150)
		for i := range calls {
			switch number(8) {
			case 0:
				calls[i] = call{'r', 0, 0, ""}
			case 1:
				calls[i] = call{'f', number(9) - 2, number(72) - 4, ""}
			case 2:
				calls[i] = call{'w', number(blocks+4) - 2, 0, strings.Repeat("s", 63+number(3))}
			default:
				calls[i] = call{'w', number(blocks), 0, counted(byte(number(256)))}
			}
		}
		checkCalls(t, blocks, calls)
	}
}

// P5.4: a block is what was written last, or, of the write in flight, a beginning of it with the end of what was; all others stay, also as it goes on behind a restart.
func TestWhatFollowsOfABlock(t *testing.T) {
	const blocks, many = 4, 12
	for writes := range many {
		for torn := range 65 {
			s := newStore(t, blocks)
			last := zeros(blocks)
			s.Fuse(writes, torn)
			for i := range many {
				at, b := i*3%blocks, counted(byte(i*20+1))
				switch {
				case i < writes:
					checkWrite(t, s, at, b, api.OK)
					last[at] = b
				case i == writes:
					checkWrite(t, s, at, b, api.ErrDown)
					last[at] = b[:torn] + last[at][torn:]
				default:
					checkWrite(t, s, at, b, api.ErrDown)
				}
				checkBlocks(t, s, last)
			}
			s.Restart()
			checkBlocks(t, s, last)
			checkWrite(t, s, writes%blocks, full("r"), api.OK)
			last[writes%blocks] = full("r")
			checkBlocks(t, s, last)
		}
	}
}
