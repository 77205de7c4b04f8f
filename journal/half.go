package journal

import (
	"strings"

	"quitrent/api"
	"quitrent/record"
	"quitrent/store"
)

// half is one of the two rows of a store's blocks that have records.
type half struct {
	store  *store.Store
	which  int // 0 or 1
	blocks int // how many it has
}

// head tells what block 0 is, if that half counts.
func (h half) head() string {
	return string([]byte{byte(h.which)}) + strings.Repeat("\x00", store.Size-1)
}

// counting tells the half that counts.
func counting(s *store.Store) (half, api.Errno) {
	h := half{store: s, blocks: (s.Blocks() - 1) / 2}
	b, _ := s.Read(0)
	for range 2 {
		if b == h.head() {
			return h, api.OK
		}
		h = h.other()
	}
	return half{}, api.ErrSum
}

func (h half) other() half {
	h.which = 1 - h.which
	return h
}

// count lets the half count.
func (h half) count() api.Errno { return h.store.Write(0, h.head()) }

// place tells the number of one of the half's blocks.
func (h half) place(at int) int { return 1 + h.which*h.blocks + at }

// read tells so many blocks of the half.
func (h half) read(at, many int) []string {
	blocks := make([]string, many)
	for i := range blocks {
		blocks[i], _ = h.store.Read(h.place(at + i))
	}
	return blocks
}

// write writes blocks of the half, one behind the other.
func (h half) write(at int, blocks ...string) api.Errno {
	for i, b := range blocks {
		if errno := h.store.Write(h.place(at+i), b); errno != api.OK {
			return errno
		}
	}
	return api.OK
}

// records tells the bytes of all records of the half, and how many blocks they have.
func (h half) records() ([]string, int, api.Errno) {
	var all []string
	at := 0
	for at < h.blocks {
		b, many, errno := h.record(at)
		if errno != api.OK {
			return nil, 0, errno
		}
		if many == 0 {
			break
		}
		all = append(all, b)
		at += many
	}
	return all, at, api.OK
}

// record tells the bytes of the record that begins at a block, and how many blocks it has: 0, if there is none.
func (h half) record(at int) (string, int, api.Errno) {
	mark, bytes, errno := record.Head(h.read(at, 1)[0])
	if errno != api.OK {
		return "", 0, api.ErrSum
	}
	if !mark {
		return "", 0, api.OK
	}
	many := record.Blocks(bytes)
	if at+many > h.blocks {
		return "", 0, api.ErrSum
	}
	b, errno := record.Join(h.read(at, many))
	if errno != api.OK {
		return "", 0, api.ErrSum
	}
	return b, many, api.OK
}
