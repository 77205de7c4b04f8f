package civil

import "sort"

// date is a date, or three numbers that are none.
type date struct {
	year, month, day int
}

// bounded tells the date that is got by drawing in the year, then the month, then the day to what each of them may be.
func (d date) bounded() date {
	year := min(max(d.year, 1), lastYear)
	month := min(max(d.month, 1), monthsOf)
	day := min(max(d.day, 1), Long(year, month))
	return date{year, month, day}
}

// mayBe tells whether nothing had to be drawn in.
func (d date) mayBe() bool { return d == d.bounded() }

// number tells the number of a date that may be.
func (d date) number() int {
	n := aheadOf(d.year) + d.day
	for month := 1; month < d.month; month++ {
		n += Long(d.year, month)
	}
	return n
}

// dateOf tells the date of a day's number.
func dateOf(n int) date {
	// The first year, counted from 0, that doesn't end ahead of the day.
	year := 1 + sort.Search(lastYear-1, func(i int) bool { return aheadOf(i+2) >= n })
	d := date{year, 1, n - aheadOf(year)}
	for d.day > Long(d.year, d.month) {
		d.day -= Long(d.year, d.month)
		d.month++
	}
	return d
}

// aheadOf tells how many days are ahead of a year's first one.
func aheadOf(year int) int {
	y := year - 1
	return y*365 + y/4 - y/100 + y/400
}
