package civil_test

import (
	"math"
	"testing"
	"time"

	"quitrent/api"
	"quitrent/civil"
)

const (
	lastYear = 2737
	lastDay  = 999668
	again    = 146097 // days of 400 years
)

// far are numbers at which sums and products wrap round.
func far() []int {
	return []int{math.MinInt, math.MinInt + 1, math.MinInt + lastDay, math.MinInt / 12, math.MinInt / 365, math.MinInt32 - 1, math.MinInt32,
		math.MaxInt32, math.MaxInt32 + 1, math.MaxUint32, 1 << 32, math.MaxInt / 365, math.MaxInt / 12, math.MaxInt - lastDay, math.MaxInt - 1, math.MaxInt}
}

// plain is a date, as the tests walk from one to the next.
type plain struct{ year, month, day int }

// wantLeap says the rule the other way round.
func wantLeap(year int) bool {
	switch {
	case year < 1:
		return false
	case year%400 == 0:
		return true
	case year%100 == 0:
		return false
	}
	return year%4 == 0
}

func wantLong(year, month int) int {
	if year < 1 {
		return 0
	}
	switch month {
	case 4, 6, 9, 11:
		return 30
	case 1, 3, 5, 7, 8, 10, 12:
		return 31
	case 2:
		if wantLeap(year) {
			return 29
		}
		return 28
	}
	return 0
}

// next tells the date of the next day.
func (p plain) next() plain {
	switch {
	case p.day < wantLong(p.year, p.month):
		return plain{p.year, p.month, p.day + 1}
	case p.month < 12:
		return plain{p.year, p.month + 1, 1}
	}
	return plain{p.year + 1, 1, 1}
}

// walk tells the dates of the numbers 1 to 999668, each at its number; at 0 is none.
func walk() []plain {
	l := make([]plain, 1, lastDay+1)
	for p := (plain{1, 1, 1}); p.year <= lastYear; p = p.next() {
		l = append(l, p)
	}
	return l
}

// numbers tells the number of each of the dates.
func numbers(dates []plain) map[plain]int {
	m := make(map[plain]int, len(dates))
	for n, p := range dates[1:] {
		m[p] = n + 1
	}
	return m
}

// mustDate tells the date of a number that has one.
func mustDate(t *testing.T, n int) plain {
	t.Helper()
	year, month, day, errno := civil.Date(n)
	if errno != api.OK {
		t.Fatalf("Date(%d): error %d", n, errno)
	}
	return plain{year, month, day}
}

// mustDays tells the number of a date that may be.
func mustDays(t *testing.T, p plain) int {
	t.Helper()
	n, errno := civil.Days(p.year, p.month, p.day)
	if errno != api.OK {
		t.Fatalf("Days(%v): error %d", p, errno)
	}
	return n
}

// P3.1, ordinary and at the edges that are named.
func TestLeap(t *testing.T) {
	for _, c := range []struct {
		year int
		want bool
	}{
		{1, false}, {2, false}, {3, false}, {4, true}, {5, false}, {8, true}, {96, true}, {99, false},
		{100, false}, {104, true}, {200, false}, {300, false}, {400, true}, {500, false}, {800, true},
		{1900, false}, {1996, true}, {2000, true}, {2023, false}, {2024, true}, {2100, false}, {2400, true},
		{2700, false}, {2736, true}, {2737, false}, {2738, false}, {2740, true}, {2800, true}, {2900, false},
		{0, false}, {-1, false}, {-4, false}, {-100, false}, {-400, false},
		{math.MaxInt, false}, {math.MaxInt - 3, true}, {math.MinInt, false}, {math.MinInt + 400, false},
		{math.MaxInt / 400 * 400, true}, {math.MaxInt/400*400 - 100, false},
	} {
		if got := civil.Leap(c.year); got != c.want {
			t.Errorf("Leap(%d): %v", c.year, got)
		}
	}
	for year := -1000; year <= 6000; year++ {
		if got := civil.Leap(year); got != wantLeap(year) {
			t.Errorf("Leap(%d): %v", year, got)
		}
	}
}

// P3.1, of the months of a year that is a leap year, of one that is none, and of no months.
func TestLong(t *testing.T) {
	for month, want := range []int{0, 31, 28, 31, 30, 31, 30, 31, 31, 30, 31, 30, 31, 0} {
		for _, year := range []int{1, 100, 1900, 2023, 2737, 2738, math.MaxInt} {
			if got := civil.Long(year, month); got != want {
				t.Errorf("Long(%d, %d): %d", year, month, got)
			}
		}
		if month == 2 {
			want = 29
		}
		for _, year := range []int{4, 400, 2000, 2024, 2736, 2740, math.MaxInt - 3} {
			if got := civil.Long(year, month); got != want {
				t.Errorf("Long(%d, %d): %d", year, month, got)
			}
		}
		for _, year := range []int{0, -1, -4, -400, math.MinInt} {
			if got := civil.Long(year, month); got != 0 {
				t.Errorf("Long(%d, %d): %d", year, month, got)
			}
		}
	}
	for _, month := range append(far(), -1, -12, 13, 14, 24) {
		for _, year := range []int{0, 1, 2024, 2737, 2738} {
			if got := civil.Long(year, month); got != 0 {
				t.Errorf("Long(%d, %d): %d", year, month, got)
			}
		}
	}
	for year := -5; year <= 3300; year++ {
		for month := -2; month <= 15; month++ {
			if got := civil.Long(year, month); got != wantLong(year, month) {
				t.Errorf("Long(%d, %d): %d", year, month, got)
			}
		}
	}
}

// P3.2, ordinary and at the edges that are named.
func TestDates(t *testing.T) {
	for _, c := range []struct {
		date       plain
		n, weekday int
	}{
		{plain{1, 1, 1}, 1, 0},
		{plain{1, 1, 2}, 2, 1},
		{plain{1, 1, 7}, 7, 6},
		{plain{1, 1, 8}, 8, 0},
		{plain{1, 1, 31}, 31, 2},
		{plain{1, 2, 1}, 32, 3},
		{plain{1, 2, 28}, 59, 2},
		{plain{1, 3, 1}, 60, 3},
		{plain{1, 12, 31}, 365, 0},
		{plain{2, 1, 1}, 366, 1},
		{plain{4, 2, 29}, 1155, 6},
		{plain{400, 12, 31}, again, 6},
		{plain{401, 1, 1}, again + 1, 0},
		{plain{1970, 1, 1}, 719163, 3},
		{plain{2000, 2, 29}, 730179, 1},
		{plain{2026, 11, 18}, 739938, 2},
		{plain{2737, 12, 30}, 999667, 3},
		{plain{2737, 12, 31}, 999668, 4},
	} {
		if got := mustDays(t, c.date); got != c.n {
			t.Errorf("Days(%v): %d, not %d", c.date, got, c.n)
		}
		if got := mustDate(t, c.n); got != c.date {
			t.Errorf("Date(%d): %v, not %v", c.n, got, c.date)
		}
		if got := civil.Weekday(c.n); got != c.weekday {
			t.Errorf("Weekday(%d): %d, not %d", c.n, got, c.weekday)
		}
	}
}

// P3.2 and P3.4, of every day: dates and numbers tell one another, and a next day is the next date.
func TestEveryDay(t *testing.T) {
	dates := walk()
	if len(dates)-1 != lastDay {
		t.Fatalf("there are %d days", len(dates)-1)
	}
	for n, p := range dates[1:] {
		n++
		if got := mustDate(t, n); got != p {
			t.Fatalf("Date(%d): %v, not %v", n, got, p)
		}
		if got := mustDays(t, p); got != n {
			t.Fatalf("Days(%v): %d, not %d", p, got, n)
		}
		if got := civil.Weekday(n); got != (n-1)%7 {
			t.Fatalf("Weekday(%d): %d", n, got)
		}
	}
}

// P3.2, held against the library's calendar.
func TestDatesAreTheLibrarys(t *testing.T) {
	first := time.Date(1, 1, 1, 0, 0, 0, 0, time.UTC)
	for n := 1; n <= lastDay; n += 13 {
		day := first.AddDate(0, 0, n-1)
		want := plain{day.Year(), int(day.Month()), day.Day()}
		if got := mustDate(t, n); got != want {
			t.Fatalf("Date(%d): %v, not %v", n, got, want)
		}
		// The library's week begins with Sunday.
		if got := civil.Weekday(n); got != (int(day.Weekday())+6)%7 {
			t.Fatalf("Weekday(%d): %d, of a %v", n, got, day.Weekday())
		}
	}
}

// P3.2, all years, months and days around those that may be: a number, or ErrArg.
func TestDaysRefuses(t *testing.T) {
	want := numbers(walk())
	years := []int{-400, -4, -1, 0, 1, 2, 3, 4, 99, 100, 101, 399, 400, 401, 1900, 2000, 2023, 2024, 2735, 2736, 2737, 2738, 2739, 2740, 2800}
	months := []int{-12, -1, 0, 1, 2, 3, 4, 5, 6, 7, 8, 9, 10, 11, 12, 13, 14, 24}
	days := []int{-31, -1, 0, 1, 15, 27, 28, 29, 30, 31, 32, 33, 59, 365, 366}
	years, months, days = append(years, far()...), append(months, far()...), append(days, far()...)
	for _, year := range years {
		for _, month := range months {
			for _, day := range days {
				n, may := want[plain{year, month, day}]
				errno := api.ErrArg
				if may {
					errno = api.OK
				}
				if got, gotErrno := civil.Days(year, month, day); got != n || gotErrno != errno {
					t.Errorf("Days(%d, %d, %d): %d, %d, not %d, %d", year, month, day, got, gotErrno, n, errno)
				}
			}
		}
	}
}

// P3.2, each month's last day and one more.
func TestDaysAtEndsOfMonths(t *testing.T) {
	for year := 1; year <= lastYear; year++ {
		for month := 1; month <= 12; month++ {
			long := wantLong(year, month)
			first, last := mustDays(t, plain{year, month, 1}), mustDays(t, plain{year, month, long})
			if last-first != long-1 {
				t.Errorf("of %d-%d: %d to %d", year, month, first, last)
			}
			for _, day := range []int{0, long + 1} {
				if n, errno := civil.Days(year, month, day); n != 0 || errno != api.ErrArg {
					t.Errorf("Days(%d, %d, %d): %d, %d", year, month, day, n, errno)
				}
			}
		}
	}
}

// P3.2, numbers of no day.
func TestDateRefuses(t *testing.T) {
	for _, n := range append(far(), 0, -1, -365, -again, lastDay+1, lastDay+2, api.MostDay, api.MostDay+1) {
		year, month, day, errno := civil.Date(n)
		if year != 0 || month != 0 || day != 0 || errno != api.ErrArg {
			t.Errorf("Date(%d): %d, %d, %d, %d", n, year, month, day, errno)
		}
	}
}

// P3.2, weekdays of numbers below 1, and of numbers past the last day.
func TestWeekday(t *testing.T) {
	for _, c := range []struct{ n, want int }{
		{math.MinInt, -1}, {math.MinInt + 1, -1}, {-8, -1}, {-7, -1}, {-6, -1}, {-1, -1}, {0, -1},
		{1, 0}, {2, 1}, {3, 2}, {4, 3}, {5, 4}, {6, 5}, {7, 6}, {8, 0},
		{lastDay, 4}, {lastDay + 1, 5}, {lastDay + 3, 0}, {api.MostDay, (api.MostDay - 1) % 7},
		{1 << 31, 1}, {1<<32 + 1, 4}, {math.MaxInt, 6}, {math.MaxInt - 6, 0}, {math.MaxInt - 7, 6},
	} {
		if got := civil.Weekday(c.n); got != c.want {
			t.Errorf("Weekday(%d): %d, not %d", c.n, got, c.want)
		}
	}
}

// P3.3, ordinary and at the edges that are named.
func TestMove(t *testing.T) {
	for _, c := range []struct {
		from   plain
		months int
		want   plain
	}{
		{plain{2026, 11, 18}, 0, plain{2026, 11, 18}},
		{plain{2026, 11, 18}, 1, plain{2026, 12, 18}},
		{plain{2026, 11, 18}, 2, plain{2027, 1, 18}},
		{plain{2026, 11, 18}, -1, plain{2026, 10, 18}},
		{plain{2026, 11, 18}, -10, plain{2026, 1, 18}},
		{plain{2026, 11, 18}, -11, plain{2025, 12, 18}},
		{plain{2026, 11, 18}, 12, plain{2027, 11, 18}},
		{plain{2026, 11, 18}, -12, plain{2025, 11, 18}},
		{plain{2026, 12, 31}, 1, plain{2027, 1, 31}},
		{plain{2026, 1, 1}, -1, plain{2025, 12, 1}},
		{plain{2024, 1, 31}, 0, plain{2024, 1, 31}},
		{plain{2024, 1, 28}, 1, plain{2024, 2, 28}},
		{plain{2024, 1, 29}, 1, plain{2024, 2, 29}},
		{plain{2024, 1, 30}, 1, plain{2024, 2, 29}},
		{plain{2024, 1, 31}, 1, plain{2024, 2, 29}},
		{plain{2023, 1, 28}, 1, plain{2023, 2, 28}},
		{plain{2023, 1, 29}, 1, plain{2023, 2, 28}},
		{plain{2023, 1, 30}, 1, plain{2023, 2, 28}},
		{plain{2023, 1, 31}, 1, plain{2023, 2, 28}},
		{plain{2023, 3, 31}, -1, plain{2023, 2, 28}},
		{plain{2024, 3, 30}, -1, plain{2024, 2, 29}},
		{plain{2024, 3, 31}, 1, plain{2024, 4, 30}},
		{plain{2024, 3, 30}, 1, plain{2024, 4, 30}},
		{plain{2024, 7, 31}, 1, plain{2024, 8, 31}},
		{plain{2024, 8, 31}, 1, plain{2024, 9, 30}},
		{plain{2024, 2, 29}, 1, plain{2024, 3, 29}},
		{plain{2024, 2, 29}, 12, plain{2025, 2, 28}},
		{plain{2024, 2, 29}, 48, plain{2028, 2, 29}},
		{plain{2000, 2, 29}, 1200, plain{2100, 2, 28}},
		{plain{2000, 2, 29}, 4800, plain{2400, 2, 29}},
		{plain{1, 1, 1}, 0, plain{1, 1, 1}},
		{plain{1, 1, 31}, 1, plain{1, 2, 28}},
		{plain{1, 2, 28}, -1, plain{1, 1, 28}},
		{plain{2, 1, 1}, -12, plain{1, 1, 1}},
		{plain{1, 1, 1}, 32843, plain{2737, 12, 1}},
		{plain{1, 1, 31}, 32843, plain{2737, 12, 31}},
		{plain{1, 1, 31}, 32842, plain{2737, 11, 30}},
		{plain{1, 12, 31}, 32832, plain{2737, 12, 31}},
		{plain{2737, 12, 31}, 0, plain{2737, 12, 31}},
		{plain{2737, 12, 31}, -32843, plain{1, 1, 31}},
		{plain{2737, 12, 31}, -32842, plain{1, 2, 28}},
		{plain{2737, 11, 30}, 1, plain{2737, 12, 30}},
	} {
		got, errno := civil.Move(mustDays(t, c.from), c.months)
		if errno != api.OK || got != mustDays(t, c.want) {
			t.Errorf("Move from %v by %d: %d, %d, not to %v", c.from, c.months, got, errno, c.want)
		}
	}
}

// walkMonths tells where a day is so many months on, month by month; false, where there is no date.
func walkMonths(p plain, months int) (plain, bool) {
	for ; months > 0; months-- {
		if p.month++; p.month > 12 {
			p.year, p.month = p.year+1, 1
		}
	}
	for ; months < 0; months++ {
		if p.month--; p.month < 1 {
			p.year, p.month = p.year-1, 12
		}
	}
	p.day = min(p.day, wantLong(p.year, p.month))
	return p, p.year >= 1 && p.year <= lastYear
}

// P3.3, of days of all kinds by some years of months, held against a walk month by month.
func TestMoveMonthByMonth(t *testing.T) {
	dates := walk()
	number := numbers(dates)
	starts := []int{1, 2, 28, 29, 30, 31, 32, 59, 60, 365, 366, 1155, lastDay, lastDay - 1, lastDay - 30, lastDay - 31, lastDay - 364, lastDay - 365}
	for n := 719100; n < 719100+1500; n += 7 {
		starts = append(starts, n, again-n%400, again+n%400)
	}
	for _, n := range starts {
		for months := -60; months <= 60; months++ {
			to, may := walkMonths(dates[n], months)
			want, errno := number[to], api.OK
			if !may {
				want, errno = 0, api.ErrArg
			}
			if got, gotErrno := civil.Move(n, months); got != want || gotErrno != errno {
				t.Errorf("Move(%d, %d): %d, %d, not %d, %d", n, months, got, gotErrno, want, errno)
			}
		}
	}
}

// P3.3, wrong inputs: no day's number, or no date then.
func TestMoveRefuses(t *testing.T) {
	for _, c := range []struct{ n, months int }{
		{0, 0}, {0, 1}, {-1, 0}, {-1, 24}, {lastDay + 1, 0}, {lastDay + 1, -1}, {lastDay + 31, -12}, {api.MostDay, -120},
		{1, -1}, {31, -1}, {32, -2}, {365, -12}, {366, -13}, {1, -12}, {1, -32844},
		{lastDay, 1}, {lastDay - 30, 1}, {lastDay - 31, 2}, {lastDay - 364, 12}, {lastDay, 12}, {lastDay, 32844},
		{1, 32844}, {365, 32833}, {lastDay, -32844}, {lastDay - 364, -32833}, {719163, 9216}, {719163, -23629},
	} {
		if got, errno := civil.Move(c.n, c.months); got != 0 || errno != api.ErrArg {
			t.Errorf("Move(%d, %d): %d, %d", c.n, c.months, got, errno)
		}
	}
	// One month less, and there is a date.
	for _, c := range []struct{ n, months int }{{719163, 9215}, {719163, -23628}} {
		if _, errno := civil.Move(c.n, c.months); errno != api.OK {
			t.Errorf("Move(%d, %d): error %d", c.n, c.months, errno)
		}
	}
	for _, a := range far() {
		for _, b := range append(far(), -1, 0, 1, 12, lastDay) {
			for _, c := range [][2]int{{a, b}, {b, a}} {
				if got, errno := civil.Move(c[0], c[1]); got != 0 || errno != api.ErrArg {
					t.Errorf("Move(%d, %d): %d, %d", c[0], c[1], got, errno)
				}
			}
		}
	}
}

// P3.4: in 400 years all comes again, 146097 days on.
func TestAllComesAgain(t *testing.T) {
	for n := 1; n+again <= lastDay; n++ {
		p, later := mustDate(t, n), mustDate(t, n+again)
		p.year += 400
		if later != p || mustDays(t, p) != n+again {
			t.Fatalf("Date(%d): %v, not %v", n+again, later, p)
		}
		if civil.Weekday(n) != civil.Weekday(n+again) {
			t.Fatalf("Weekday(%d): %d", n+again, civil.Weekday(n+again))
		}
	}
	for n := 1; n+again <= lastDay; n += 11 {
		if got, errno := civil.Move(n, 4800); got != n+again || errno != api.OK {
			t.Fatalf("Move(%d, 4800): %d, %d", n, got, errno)
		}
		if got, errno := civil.Move(n+again, -4800); got != n || errno != api.OK {
			t.Fatalf("Move(%d, -4800): %d, %d", n+again, got, errno)
		}
	}
	for year := 1; year <= 3000; year++ {
		if civil.Leap(year) != civil.Leap(year+400) || civil.Long(year, 2) != civil.Long(year+400, 2) {
			t.Errorf("year %d isn't as year %d", year+400, year)
		}
	}
}
