package fiscal_test

import (
	"math"
	"testing"
	"time"

	"quitrent/api"
	"quitrent/civil"
	"quitrent/fiscal"
)

const (
	lastDay     = 999668 // 31 December 2737
	weeksDays   = 7301   // of 240 periods of weeks: 20 years of 364 days, of which three are long
	lastOfWeeks = lastDay - weeksDays + 1
)

// far are numbers at which sums and products wrap round.
func far() []int {
	return []int{math.MinInt, math.MinInt + 1, math.MinInt + lastDay, math.MinInt / 12, math.MinInt / 364, math.MinInt32 - 1, math.MinInt32,
		math.MaxInt32, math.MaxInt32 + 1, math.MaxUint32, 1 << 32, 1<<32 + 1, math.MaxInt / 364, math.MaxInt / 71, math.MaxInt / 12,
		math.MaxInt - lastDay, math.MaxInt - weeksDays, math.MaxInt - 1, math.MaxInt}
}

// others are kinds that no calendar has.
func others() []int { return append(far(), -2, -1, 2, 3, 12) }

// span is a period's first and last day.
type span struct{ first, last int }

// wantWeeks says how long the periods of weeks are, with its long years counted by hand.
func wantWeeks(p int) int {
	switch p {
	case 12*5 + 11, 12*11 + 11, 12*16 + 11:
		return 42
	}
	if p%3 == 2 {
		return 35
	}
	return 28
}

// walkWeeks tells the periods of a calendar of weeks.
func walkWeeks(from int) []span {
	l := make([]span, api.MostPeriods)
	for p := range l {
		l[p] = span{from, from + wantWeeks(p) - 1}
		from += wantWeeks(p)
	}
	return l
}

// walkMonths tells the periods of a calendar of months, by the Go library's calendar.
func walkMonths(from int) []span {
	at := time.Date(1, 1, from, 0, 0, 0, 0, time.UTC)
	l := make([]span, api.MostPeriods)
	for p := range l {
		next := at.AddDate(0, 1, 0)
		days := int(next.Sub(at) / (24 * time.Hour))
		l[p] = span{from, from + days - 1}
		from, at = from+days, next
	}
	return l
}

// firsts tells the numbers of the first days of all months.
func firsts(t *testing.T) []int {
	t.Helper()
	var l []int
	for year := 1; year <= 2737; year++ {
		for month := 1; month <= 12; month++ {
			l = append(l, number(t, year, month, 1))
		}
	}
	return l
}

func number(t *testing.T, year, month, day int) int {
	t.Helper()
	n, errno := civil.Days(year, month, day)
	if errno != api.OK {
		t.Fatalf("Days(%d, %d, %d): error %d", year, month, day, errno)
	}
	return n
}

// checkPeriod holds First, Last and Days against a period that there is.
func checkPeriod(t *testing.T, c fiscal.Calendar, p int, want span) {
	t.Helper()
	if got, errno := fiscal.First(c, p); got != want.first || errno != api.OK {
		t.Errorf("First(%v, %d): %d, %d, not %d", c, p, got, errno, want.first)
	}
	if got, errno := fiscal.Last(c, p); got != want.last || errno != api.OK {
		t.Errorf("Last(%v, %d): %d, %d, not %d", c, p, got, errno, want.last)
	}
	if got := fiscal.Days(c, p); got != want.last-want.first+1 {
		t.Errorf("Days(%v, %d): %d, not %d", c, p, got, want.last-want.first+1)
	}
}

// checkNoPeriod holds them against one that there isn't.
func checkNoPeriod(t *testing.T, c fiscal.Calendar, p int) {
	t.Helper()
	if got, errno := fiscal.First(c, p); got != 0 || errno != api.ErrArg {
		t.Errorf("First(%v, %d): %d, %d", c, p, got, errno)
	}
	if got, errno := fiscal.Last(c, p); got != 0 || errno != api.ErrArg {
		t.Errorf("Last(%v, %d): %d, %d", c, p, got, errno)
	}
	if got := fiscal.Days(c, p); got != 0 {
		t.Errorf("Days(%v, %d): %d", c, p, got)
	}
}

func checkOf(t *testing.T, c fiscal.Calendar, day, want int, wantErrno api.Errno) {
	t.Helper()
	if got, errno := fiscal.Of(c, day); got != want || errno != wantErrno {
		t.Errorf("Of(%v, %d): %d, %d, not %d, %d", c, day, got, errno, want, wantErrno)
	}
}

// checkCalendar holds all periods of a calendar against what was walked, and the days at their ends.
func checkCalendar(t *testing.T, c fiscal.Calendar, want []span) {
	t.Helper()
	for p, s := range want {
		checkPeriod(t, c, p, s)
		checkOf(t, c, s.first, p, api.OK)
		checkOf(t, c, s.last, p, api.OK)
	}
	checkOf(t, c, want[0].first-1, 0, api.ErrArg)
	checkOf(t, c, want[len(want)-1].last+1, 0, api.ErrArg)
	checkNoPeriod(t, c, -1)
	checkNoPeriod(t, c, api.MostPeriods)
}

// P4.1, of the numbers of kinds, which P4.2's calendars hang on.
func TestKinds(t *testing.T) {
	if fiscal.Months != 0 || fiscal.Weeks != 1 {
		t.Errorf("kinds: %d, %d", fiscal.Months, fiscal.Weeks)
	}
}

// P4.1, ordinary and at the edges that are named.
func TestCheck(t *testing.T) {
	for _, c := range []struct {
		kind, first int
		want        api.Errno
	}{
		{fiscal.Months, 1, api.OK},
		{fiscal.Months, 0, api.ErrArg},
		{fiscal.Months, -1, api.ErrArg},
		{fiscal.Months, 2, api.ErrArg},
		{fiscal.Months, 31, api.ErrArg},
		{fiscal.Months, 32, api.OK},
		{fiscal.Months, 33, api.ErrArg},
		{fiscal.Months, 366, api.OK},
		{fiscal.Months, number(t, 2024, 2, 29), api.ErrArg},
		{fiscal.Months, number(t, 2024, 3, 1), api.OK},
		{fiscal.Months, number(t, 2024, 3, 2), api.ErrArg},
		{fiscal.Months, number(t, 2717, 12, 1), api.OK},
		{fiscal.Months, number(t, 2717, 12, 31), api.ErrArg},
		{fiscal.Months, number(t, 2718, 1, 1), api.OK},
		{fiscal.Months, number(t, 2718, 1, 2), api.ErrArg},
		{fiscal.Months, number(t, 2718, 2, 1), api.ErrArg},
		{fiscal.Months, number(t, 2737, 12, 1), api.ErrArg},
		{fiscal.Months, lastDay + 1, api.ErrArg},
		{fiscal.Weeks, -1, api.ErrArg},
		{fiscal.Weeks, 0, api.ErrArg},
		{fiscal.Weeks, 1, api.OK},
		{fiscal.Weeks, 2, api.OK},
		{fiscal.Weeks, 719163, api.OK},
		{fiscal.Weeks, lastOfWeeks - 1, api.OK},
		{fiscal.Weeks, lastOfWeeks, api.OK},
		{fiscal.Weeks, lastOfWeeks + 1, api.ErrArg},
		{fiscal.Weeks, lastDay, api.ErrArg},
		{fiscal.Weeks, lastDay + 1, api.ErrArg},
		{fiscal.Weeks, api.MostDay, api.ErrArg},
	} {
		if got := fiscal.Check(fiscal.Calendar{Kind: c.kind, First: c.first}); got != c.want {
			t.Errorf("Check of kind %d from day %d: %d, not %d", c.kind, c.first, got, c.want)
		}
	}
}

// P4.1, of each first day around those that may be.
func TestCheckOfEveryDay(t *testing.T) {
	months := map[int]api.Errno{}
	for i, first := range firsts(t) {
		// Of 2737 years the last 20 years' months have less than 240 months with them, but the first one of these.
		if i <= 12*2737-api.MostPeriods {
			months[first] = api.OK
		}
	}
	for day := -2; day <= lastDay+2; day++ {
		_, wanted := months[day]
		if got := fiscal.Check(fiscal.Calendar{Kind: fiscal.Months, First: day}); (got == api.OK) != wanted || got != api.OK && got != api.ErrArg {
			t.Fatalf("Check of months from day %d: %d", day, got)
		}
		wanted = day >= 1 && day <= lastOfWeeks
		if got := fiscal.Check(fiscal.Calendar{Kind: fiscal.Weeks, First: day}); (got == api.OK) != wanted || got != api.OK && got != api.ErrArg {
			t.Fatalf("Check of weeks from day %d: %d", day, got)
		}
	}
}

// P4.1, wrong kinds and first days, of any size; nor has such a calendar any periods.
func TestCalendarsThatMayNotBe(t *testing.T) {
	var l []fiscal.Calendar
	for _, kind := range others() {
		for _, first := range append(far(), 0, 1, 2, 32, 719163, lastOfWeeks) {
			l = append(l, fiscal.Calendar{Kind: kind, First: first})
		}
	}
	for _, first := range append(far(), -1, 0, lastDay, lastDay+1, api.MostDay) {
		l = append(l, fiscal.Calendar{Kind: fiscal.Months, First: first}, fiscal.Calendar{Kind: fiscal.Weeks, First: first})
	}
	l = append(l, fiscal.Calendar{Kind: fiscal.Months, First: 2}, fiscal.Calendar{Kind: fiscal.Months, First: number(t, 2718, 2, 1)},
		fiscal.Calendar{Kind: fiscal.Weeks, First: lastOfWeeks + 1})
	for _, c := range l {
		if got := fiscal.Check(c); got != api.ErrArg {
			t.Errorf("Check(%v): %d", c, got)
		}
		for _, n := range append(far(), -1, 0, 1, 28, c.First, api.MostPeriods-1) {
			checkNoPeriod(t, c, n)
			checkOf(t, c, n, 0, api.ErrArg)
		}
	}
}

// P4.2, of weeks: the chapter's example, and the edges that are named.
func TestPeriodsOfWeeks(t *testing.T) {
	c := fiscal.Calendar{Kind: fiscal.Weeks, First: 1}
	for _, w := range []struct {
		p int
		span
	}{
		{0, span{1, 28}},
		{1, span{29, 56}},
		{2, span{57, 91}},
		{3, span{92, 119}},
		{11, span{330, 364}},
		{12, span{365, 392}},
		{59, span{1786, 1820}},
		{70, span{2122, 2149}},
		{71, span{2150, 2191}},
		{72, span{2192, 2219}},
		{143, span{4341, 4382}},
		{144, span{4383, 4410}},
		{203, span{6168, 6209}},
		{204, span{6210, 6237}},
		{239, span{7267, 7301}},
	} {
		checkPeriod(t, c, w.p, w.span)
		checkPeriod(t, fiscal.Calendar{Kind: fiscal.Weeks, First: lastOfWeeks}, w.p, span{w.first + lastOfWeeks - 1, w.last + lastOfWeeks - 1})
	}
}

// P4.2, of months: over leap years, years of hundreds, and ends of years.
func TestPeriodsOfMonths(t *testing.T) {
	for _, w := range []struct{ year, month, p, toYear, toMonth, days int }{
		{1, 1, 0, 1, 1, 31},
		{1, 1, 1, 1, 2, 28},
		{1, 1, 11, 1, 12, 31},
		{1, 1, 12, 2, 1, 31},
		{1, 1, 37, 4, 2, 29},
		{1, 1, 239, 20, 12, 31},
		{2024, 1, 1, 2024, 2, 29},
		{2024, 2, 0, 2024, 2, 29},
		{2024, 2, 2, 2024, 4, 30},
		{2024, 2, 3, 2024, 5, 31},
		{2024, 4, 8, 2024, 12, 31},
		{2024, 4, 9, 2025, 1, 31},
		{2024, 4, 10, 2025, 2, 28},
		{2024, 4, 11, 2025, 3, 31},
		{2024, 4, 12, 2025, 4, 30},
		{2024, 12, 1, 2025, 1, 31},
		{1899, 3, 11, 1900, 2, 28},
		{1999, 3, 11, 2000, 2, 29},
		{2099, 3, 11, 2100, 2, 28},
		{2718, 1, 239, 2737, 12, 31},
	} {
		c := fiscal.Calendar{Kind: fiscal.Months, First: number(t, w.year, w.month, 1)}
		checkPeriod(t, c, w.p, span{number(t, w.toYear, w.toMonth, 1), number(t, w.toYear, w.toMonth, w.days)})
	}
}

// P4.2, all periods of calendars, from the first one that may be to the last.
func TestPeriodsOfCalendars(t *testing.T) {
	months := firsts(t)[:12*2737-api.MostPeriods+1]
	for i := 0; i < len(months); i += 89 {
		checkCalendar(t, fiscal.Calendar{Kind: fiscal.Months, First: months[i]}, walkMonths(months[i]))
	}
	last := months[len(months)-1]
	checkCalendar(t, fiscal.Calendar{Kind: fiscal.Months, First: last}, walkMonths(last))
	for first := 1; first <= lastOfWeeks; first += 3571 {
		checkCalendar(t, fiscal.Calendar{Kind: fiscal.Weeks, First: first}, walkWeeks(first))
	}
	for _, first := range []int{2, 719163, lastOfWeeks - 1, lastOfWeeks} {
		checkCalendar(t, fiscal.Calendar{Kind: fiscal.Weeks, First: first}, walkWeeks(first))
	}
}

// ordinary tells calendars that may be, of both kinds.
func ordinary(t *testing.T) []fiscal.Calendar {
	t.Helper()
	return []fiscal.Calendar{
		{Kind: fiscal.Months, First: 1},
		{Kind: fiscal.Months, First: number(t, 1999, 7, 1)},
		{Kind: fiscal.Months, First: number(t, 2718, 1, 1)},
		{Kind: fiscal.Weeks, First: 1},
		{Kind: fiscal.Weeks, First: 2},
		{Kind: fiscal.Weeks, First: number(t, 2024, 2, 29)},
		{Kind: fiscal.Weeks, First: lastOfWeeks},
	}
}

// P4.2, periods that there aren't, and days that are in none, of any size.
func TestRefused(t *testing.T) {
	for _, c := range ordinary(t) {
		for _, p := range append(far(), -240, -12, -2, -1, 240, 241, 252, 480) {
			checkNoPeriod(t, c, p)
		}
		last, errno := fiscal.Last(c, api.MostPeriods-1)
		if errno != api.OK {
			t.Fatalf("Last(%v, 239): error %d", c, errno)
		}
		for _, day := range append(far(), -1, 0, c.First-2, c.First-1, last+1, last+2, lastDay+1, api.MostDay+1) {
			checkOf(t, c, day, 0, api.ErrArg)
		}
	}
}

// P4.3: each period begins the day behind the one ahead, and each day of one is of it.
func TestEachDayIsOfItsPeriod(t *testing.T) {
	for _, c := range ordinary(t) {
		day := c.First
		for p := range api.MostPeriods {
			if got, errno := fiscal.First(c, p); got != day || errno != api.OK {
				t.Fatalf("First(%v, %d): %d, %d, not %d", c, p, got, errno, day)
			}
			days := fiscal.Days(c, p)
			if days < 28 {
				t.Fatalf("Days(%v, %d): %d", c, p, days)
			}
			for range days {
				checkOf(t, c, day, p, api.OK)
				day++
			}
		}
		checkOf(t, c, day, 0, api.ErrArg)
	}
}
