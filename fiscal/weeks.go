package fiscal

const (
	week           = 7
	shortDays      = 4 * week             // of each of a quarter's first two periods
	quarterDays    = 2*shortDays + 5*week // of its three periods
	yearDays       = 4 * quarterDays      // of a year that isn't long
	yearPeriods    = 12
	quarterPeriods = 3
	cycleYears     = 400
	cycleLongs     = 71 // years of a cycle that are long
)

// daysAhead tells how many days are ahead of a period, in a calendar of weeks.
func daysAhead(p int) int {
	// A long year's week more is its last one: it is ahead of no other period of that year.
	years, p := p/yearPeriods, p%yearPeriods
	days := years*yearDays + longsAhead(years)*week
	return days + p/quarterPeriods*quarterDays + p%quarterPeriods*shortDays
}

// longsAhead tells how many long years are ahead of a year.
func longsAhead(years int) int { return cycleLongs * years / cycleYears }
