package done

import (
	"quitrent/api"
	"quitrent/cents"
)

// event is a number that was told of a day.
type event struct {
	day int
	n   int64
}

// rises tells whether numbers, with this one, are of a day each, and no less of a later one.
func (l *Log) rises(day int, n int64) api.Errno {
	errno := api.OK
	for _, e := range l.told {
		if e.day == day {
			return api.ErrTwice
		}
		if e.day < day && e.n > n || e.day > day && e.n < n {
			// That day may still come among the others, and is named first.
			errno = api.ErrOrder
		}
	}
	return errno
}

// greatest tells the greatest number told of days up to this one, 0 without any.
func (l *Log) greatest(day int) int64 {
	most := int64(0)
	for _, e := range l.told {
		if e.day <= day {
			most = max(most, e.n)
		}
	}
	return most
}

// together tells the sum of the numbers told of days up to this one.
func (l *Log) together(day int) int64 {
	sum := int64(0)
	for _, e := range l.told {
		if e.day <= day {
			// Numbers are 1 or more, and all of them together an amount, so fewer are one, too.
			sum, _ = cents.Add(sum, e.n)
		}
	}
	return sum
}
