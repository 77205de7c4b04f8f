package fiscal

import "testing"

const again = 146097 // days of 400 years

// P4.3, the last sentence: of more years than a calendar has periods, so that it is asked inside.
func TestWeeksOf400Years(t *testing.T) {
	for p := 0; p <= 3*12*400; p += 7 {
		if got := daysAhead(p+12*400) - daysAhead(p); got != again {
			t.Errorf("400 years from period %d on have %d days", p, got)
		}
	}
	if got := daysAhead(12 * 400); got != again {
		t.Errorf("400 years have %d days", got)
	}
}

// The words on long years: the rule, year by year, and 71 of 400.
func TestLongYears(t *testing.T) {
	longs := 0
	for k := range 400 {
		want := 364
		if 71*(k+1)/400 > 71*k/400 {
			want = 371
			longs++
		}
		if got := daysAhead(12*(k+1)) - daysAhead(12*k); got != want {
			t.Errorf("year %d has %d days, not %d", k, got, want)
		}
		for p := 12 * k; p < 12*k+11; p++ {
			if got := daysAhead(p+1) - daysAhead(p); got != 28 && (p%3 != 2 || got != 35) {
				t.Errorf("period %d has %d days", p, got)
			}
		}
	}
	if longs != 71 {
		t.Errorf("%d years are long", longs)
	}
}
