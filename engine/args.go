package engine

import (
	"math"

	"quitrent/api"
	"quitrent/codec"
	"quitrent/consider"
)

// Kinds of commands.
const (
	toSign = iota + 1
	toBill
	toTell
	toOnward
	toAfresh
	toPrice
	toClose
	toEarned
	toBalance
)

// How many numbers there are, of a sign, of each that may come and of each line, and how many rows of both it may have.
const (
	mayWide  = 2
	lineWide = 5
	mostRows = 32
)

// wellFormed tells whether a command is of a kind, and has as many Args as it must have.
func wellFormed(c codec.Command) bool {
	switch c.Kind {
	case toSign:
		return wellSigned(c.Args)
	case toTell:
		return len(c.Args) == 4
	case toBill, toOnward, toAfresh, toPrice, toEarned, toBalance:
		return len(c.Args) == 3
	case toClose:
		return len(c.Args) == 1
	}
	return false
}

// wellSigned tells whether Args are a number and a day, what may come, and lines.
func wellSigned(args []int64) bool {
	if len(args) < 2 {
		return false
	}
	args, ok := behind(args[2:], mayWide)
	if !ok {
		return false
	}
	args, ok = behind(args, lineWide)
	return ok && len(args) == 0
}

// behind tells what is behind rows, ahead of which it stands how many they are, and that Args don't end ahead of that.
func behind(args []int64, wide int) ([]int64, bool) {
	if len(args) == 0 {
		return nil, false
	}
	rows := small(args[0])
	if rows < 0 || rows > mostRows || len(args) < 1+rows*wide {
		return nil, false
	}
	return args[1+rows*wide:], true
}

// small tells a number that is no amount: one that is too far from 0 is one that nothing has.
func small(n int64) int {
	if n < math.MinInt32 || n > math.MaxInt32 {
		return math.MinInt32
	}
	return int(n)
}

// taker takes the next one of Args, of which there must be one more.
type taker func() int64

// taking takes Args, from the first one on.
func taking(args []int64) taker {
	return func() int64 {
		n := args[0]
		args = args[1:]
		return n
	}
}

// small takes a number that is no amount.
func (take taker) small() int { return small(take()) }

// may takes what may come, behind how many these are.
func (take taker) may() []consider.Maybe {
	l := make([]consider.Maybe, take.small())
	for i := range l {
		l[i] = consider.Maybe{Amount: take(), Chance: take.small()}
	}
	return l
}

// lines takes lines, behind how many these are.
func (take taker) lines() []api.Line {
	l := make([]api.Line, take.small())
	for i := range l {
		l[i] = api.Line{Item: take.small(), Units: take(), Charge: take(), First: take.small(), Last: take.small()}
	}
	return l
}
