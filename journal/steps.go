package journal

import (
	"strings"

	"quitrent/api"
	"quitrent/record"
	"quitrent/store"
)

// step is one of the things that are done to keep something.
type step func() api.Errno

// inOrder does steps, one behind the other, up to the first one that has an error.
func inOrder(steps ...step) api.Errno {
	for _, do := range steps {
		if errno := do(); errno != api.OK {
			return errno
		}
	}
	return api.OK
}

// laying tells the steps that lay bytes in the half, from one of its blocks on. Their order keeps the power's going from doing harm: as long as the mark is 0, nothing of it counts; and as the mark turns, nothing else does, so that one byte of that write is as good as all.
func (h half) laying(from int, b string) ([]step, api.Errno) {
	idle, errno := record.Lay(b, false)
	if errno != api.OK {
		return nil, errno
	}
	behind := from + len(idle)
	if behind > h.blocks {
		return nil, api.ErrFull
	}
	counts, _ := record.Lay(b, true)
	return []step{
		func() api.Errno { return h.end(behind) },
		func() api.Errno { return h.write(from+1, idle[1:]...) },
		func() api.Errno { return h.write(from, idle[0]) },
		func() api.Errno { return h.write(from, counts[0]) },
	}, api.OK
}

// end lets no record begin at a block, whatever was left there, if the half has that block.
func (h half) end(at int) api.Errno {
	zeros := strings.Repeat("\x00", store.Size)
	if at == h.blocks || h.read(at, 1)[0] == zeros {
		return api.OK
	}
	return h.write(at, zeros)
}
