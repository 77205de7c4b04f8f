package net

import (
	"quitrent/api"
	"quitrent/cents"
)

// sums are what was billed of a contract, and what was recognized.
type sums struct {
	billed, recognized int64
}

// below tells whether one of them is below 0.
func (s sums) below() bool {
	return s.billed < 0 || s.recognized < 0
}

// plus tells them with so much more.
func (s sums) plus(more sums) (sums, api.Errno) {
	billed, errno := cents.Add(s.billed, more.billed)
	if errno != api.OK {
		return sums{}, errno
	}
	recognized, errno := cents.Add(s.recognized, more.recognized)
	if errno != api.OK {
		return sums{}, errno
	}
	return sums{billed, recognized}, api.OK
}

// sides tells the liability and the asset of sums that aren't below 0.
func (s sums) sides() (int64, int64) {
	// Neither fails: two amounts that aren't below 0 are no further apart than one is from 0.
	liability, _ := cents.Less(s.billed, s.recognized)
	asset, _ := cents.Less(s.recognized, s.billed)
	return max(liability, 0), max(asset, 0)
}
