package book

import "sort"

// mostPrices is how many prices an item has at most: its own, and 100 that were set.
const mostPrices = 1 + 100

// since is a price from a day on.
type since struct {
	day   int
	price int64
}

// behind tells the place of the first price behind a day. A row stands in order of days, and begins with day 0: there is one ahead of that place.
func behind(row []since, day int) int {
	return sort.Search(len(row), func(i int) bool { return row[i].day > day })
}

// put lays a price at its place in a row.
func put(row []since, at int, x since) []since {
	// The prices ahead are cut so that they have no room: else x would be laid over the price behind it.
	ahead := row[:at:at]
	return append(append(ahead, x), row[at:]...)
}
