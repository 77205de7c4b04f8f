package cents

import (
	"math/bits"

	"quitrent/api"
)

// wide is a number of 128 bits with a sign (two's complement), so that sums on the way never leave it.
type wide struct {
	high, low uint64
}

// widen tells an amount as a wide number.
func widen(n int64) wide {
	return wide{uint64(n >> 63), uint64(n)}
}

func (w wide) plus(v wide) wide {
	low, carry := bits.Add64(w.low, v.low, 0)
	high, _ := bits.Add64(w.high, v.high, carry)
	return wide{high, low}
}

func (w wide) less(v wide) wide {
	low, borrow := bits.Sub64(w.low, v.low, 0)
	high, _ := bits.Sub64(w.high, v.high, borrow)
	return wide{high, low}
}

// narrow tells the amount that a wide number is, or that it is none.
func (w wide) narrow() (int64, api.Errno) {
	n := int64(w.low)
	if widen(n) != w {
		return 0, api.ErrOver
	}
	return n, api.OK
}
