package book

import (
	"quitrent/api"
	"quitrent/cents"
)

// Check tells whether lines may be.
func (b *Book) Check(lines []api.Line) api.Errno {
	if len(lines) > api.MostLines {
		return api.ErrFull
	}
	if len(lines) == 0 {
		return api.ErrArg
	}
	for _, x := range lines {
		if !b.takes(x) {
			return api.ErrArg
		}
	}
	return api.OK
}

// takes tells whether a line may be.
func (b *Book) takes(x api.Line) bool {
	return b.has(x.Item) && x.Units >= 1 && x.Charge >= 0 &&
		x.First >= 1 && x.First <= x.Last && x.Last <= api.MostDay
}

// Alone tells what a line is worth alone.
func (b *Book) Alone(x api.Line, day int) (int64, api.Errno) {
	if !b.takes(x) {
		return 0, api.ErrArg
	}
	price, errno := b.Price(x.Item, day)
	if errno != api.OK {
		return 0, errno
	}
	// So many parts of a whole of 1: cents has no product by that name.
	return cents.Part(price, x.Units, 1)
}
