package contract

import (
	"quitrent/allot"
	"quitrent/api"
	"quitrent/cents"
	"quitrent/track"
)

// mostChanges is how many changes there may be.
const mostChanges = 40

// Onward changes the price for what is behind a day.
func (c *Contract) Onward(day int, more int64) api.Errno {
	price, errno := c.next(day, more)
	if errno != api.OK {
		return errno
	}
	if price < c.All(day) {
		return api.ErrArg
	}
	// Where each obligation is whole none counts, which allot refuses by the same error as the chapter does.
	shares, errno := allot.Again(price, c.earned(day), c.open(day))
	if errno != api.OK {
		return errno
	}
	c.change(day, price, shares, (*track.Track).Onward)
	return api.OK
}

// Afresh changes the price from the beginning.
func (c *Contract) Afresh(day int, more int64) api.Errno {
	price, errno := c.next(day, more)
	if errno != api.OK {
		return errno
	}
	// A price below 0 is refused there.
	shares, errno := allot.All(price, c.alone)
	if errno != api.OK {
		return errno
	}
	c.change(day, price, shares, (*track.Track).Afresh)
	return api.OK
}

// next tells the price that a change would make, or why there can be none.
func (c *Contract) next(day int, more int64) (int64, api.Errno) {
	switch {
	case !isDay(day):
		return 0, api.ErrArg
	case day < c.day:
		return 0, api.ErrOrder
	case c.changes == mostChanges:
		return 0, api.ErrFull
	}
	return cents.Add(c.price, more)
}

// open tells what each obligation is worth alone, those that are whole through a day 0.
func (c *Contract) open(day int) []int64 {
	l := make([]int64, len(c.tracks))
	for i, t := range c.tracks {
		if !t.Whole(day) {
			l[i] = c.alone[i]
		}
	}
	return l
}

// change lets the shares of a price be allotted from a day on, by one of a track's methods.
func (c *Contract) change(day int, price int64, shares []int64, as func(t *track.Track, day int, allotted int64) api.Errno) {
	for i, t := range c.tracks {
		// None fails: a track has room for more changes, its last one was no later, and no share is less than its method takes.
		as(t, day, shares[i])
	}
	c.price, c.day = price, day
	c.changes++
}
