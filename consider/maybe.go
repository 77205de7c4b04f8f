package consider

import "quitrent/api"

// Maybe is what may come.
type Maybe struct {
	Amount int64
	Chance int
}

// ifSure tells how many basis points of it count: all, if it is sure enough, else none.
func (m Maybe) ifSure(bound int) int64 {
	if m.sure(bound) {
		return api.Whole
	}
	return 0
}

// byChance tells how many basis points of it count, whatever the bound: its chance.
func (m Maybe) byChance(int) int64 {
	return int64(m.Chance)
}

// sure tells whether it is sure enough.
func (m Maybe) sure(bound int) bool {
	if m.Amount > 0 {
		return m.Chance >= bound
	}
	return m.Chance > api.Whole-bound
}
