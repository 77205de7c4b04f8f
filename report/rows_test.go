package report_test

import (
	"slices"
	"testing"

	"quitrent/api"
	"quitrent/codec"
	"quitrent/engine"
	"quitrent/report"
)

// refuses holds that nothing is told of a period.
func refuses(t *testing.T, e *engine.Engine, period int) {
	t.Helper()
	if got, errno := report.Rows(e, period); got != nil || errno != api.ErrArg {
		t.Fatalf("Rows of %d: %v, %d", period, got, errno)
	}
	if got, errno := report.Bytes(e, period); got != "" || errno != api.ErrArg {
		t.Fatalf("Bytes of %d: %q, %d", period, got, errno)
	}
}

// P19.2: of no engine, whichever the period.
func TestRowsOfNoEngine(t *testing.T) {
	for _, period := range append(far(), 0, 1, 239, 240) {
		refuses(t, nil, period)
	}
}

// P19.2: of periods that there are and aren't, of engines of one, of four and of as many as there may be, also where all are closed.
func TestRowsOfNoPeriod(t *testing.T) {
	for _, periods := range []int{1, 4, mostPeriods} {
		d := newDesk(t, weeks(periods))
		d.sign(5, row(byDay, 280, 1, 280))
		for range 2 {
			for _, period := range append(far(), periods, periods+1, mostPeriods) {
				if period < 0 || period >= periods {
					refuses(t, d.e, period)
				}
			}
			for period := range periods {
				d.tells(period, d.rows(period)...)
			}
			d.close(periods - d.e.Ledger().Open())
		}
		if got := len(d.rows(periods - 1)); got != 1 {
			t.Fatalf("of %d periods: %d rows", periods, got)
		}
	}
}

// P19.2: without contracts, and with contracts of which nothing was posted: no rows, and the list of none.
func TestNoRows(t *testing.T) {
	d := newDesk(t, weeks(4))
	for period := range 4 {
		d.tells(period)
		if got := d.bytes(period); got != "\x00" {
			t.Fatalf("Bytes of no rows: %q", got)
		}
	}
	d.sign(0, row(byDay, 100, 57, 90))
	d.sign(3, row(byDay, 0, 1, 56))
	d.sign(4, row(units, 100, 1, 56))
	d.same()
	d.close(2)
	for period := range 4 {
		d.tells(period)
	}
	d.close(1)
	d.tells(1)
	d.tells(2, []int64{0, 0, 0, 0, 0, 0, 100, 0, -100})
	d.tells(3, []int64{0, 0, 0, 0, 0, 100, 0, -100, 0})
}

// P19.2: a contract that is billed and recognized, of each account in order, what is ahead and what moves.
func TestRowsOfOne(t *testing.T) {
	d := newDesk(t, weeks(4))
	d.sign(7, row(byDay, 100, 1, 56))
	d.must(bill, 7, 5, 60)
	d.tells(0, []int64{7, 0, 60, 0, -60, 0, 0, 0, 0})
	for period := 1; period < 4; period++ {
		d.tells(period, []int64{7, 60, 0, -60, 0, 0, 0, 0, 0})
	}
	d.close(1)
	d.must(bill, 7, 29, 15)
	d.close(1)
	for period, want := range [][]int64{
		{7, 0, 60, 0, -10, 0, 0, 0, -50},
		{7, 60, 15, -10, 10, 0, 25, -50, -50},
		{7, 75, 0, 0, 0, 25, 0, -100, 0},
		{7, 75, 0, 0, 0, 25, 0, -100, 0},
	} {
		d.tells(period, want)
	}
	if got := d.bytes(0); got != "\x02\x14\x07\x08\x00\x78\x00\x13\x00\x00\x00\x63" {
		t.Fatalf("Bytes of 0: %q", got)
	}
	d.same()
}

// P19.2: a contract that is moved and comes back to 0, and one that is moved and back within a period.
func TestRowsOfNothingLeft(t *testing.T) {
	d := newDesk(t, weeks(4))
	d.sign(0, row(byDay, 100, 1, 28))
	d.sign(1, row(byDay, 100, 29, 56))
	d.close(1)
	d.must(afresh, 0, 28, -100)
	d.must(bill, 1, 30, 70)
	d.must(bill, 1, 31, 30)
	d.close(1)
	d.tells(0, []int64{0, 0, 0, 0, 0, 0, 100, 0, -100})
	d.tells(1, []int64{0, 0, 0, 0, 0, 100, -100, -100, 100}, []int64{1, 0, 100, 0, 0, 0, 0, 0, -100})
	d.tells(2, []int64{1, 100, 0, 0, 0, 0, 0, -100, 0})
	d.tells(3, []int64{1, 100, 0, 0, 0, 0, 0, -100, 0})
	d.must(afresh, 0, 28, 60)
	d.close(1)
	d.tells(2, []int64{0, 0, 0, 0, 0, 0, 60, 0, -60}, []int64{1, 100, 0, 0, 0, 0, 0, -100, 0})
	d.same()
}

// P19.2: what is recognized is taken back as far as it was, while nothing was billed and while all was.
func TestRowsOfLess(t *testing.T) {
	d := newDesk(t, weeks(4))
	d.sign(2, row(byDay, 100, 1, 28))
	d.must(bill, 2, 1, 100)
	d.close(1)
	d.must(afresh, 2, 28, -100)
	d.close(1)
	d.tells(0, []int64{2, 0, 100, 0, 0, 0, 0, 0, -100})
	d.tells(1, []int64{2, 100, 0, 0, -100, 0, 0, -100, 100})
	d.must(afresh, 2, 28, 30)
	d.must(bill, 2, 57, 20)
	d.tells(2, []int64{2, 100, 20, -100, -20, 0, 0, 0, 0})
	d.close(1)
	d.tells(2, []int64{2, 100, 20, -100, 10, 0, 0, 0, -30})
	d.tells(3, []int64{2, 120, 0, -90, 0, 0, 0, -30, 0})
	d.same()
}

// P19.2: a contract that moved only behind a period has no row of it.
func TestRowsAhead(t *testing.T) {
	d := newDesk(t, weeks(4))
	d.sign(0, row(byDay, 100, 1, 56))
	d.sign(1, row(byDay, 100, 57, 90))
	d.close(2)
	d.must(bill, 1, 57, 5)
	d.tells(0, []int64{0, 0, 0, 0, 0, 0, 50, 0, -50})
	d.tells(1, []int64{0, 0, 0, 0, 0, 50, 50, -50, -50})
	d.tells(2, []int64{0, 0, 0, 0, 0, 100, 0, -100, 0}, []int64{1, 0, 5, 0, -5, 0, 0, 0, 0})
	d.same()
}

// P19.2: each two sides that there may be, as they are moved and as they stay.
func TestRowsOfEachSide(t *testing.T) {
	for _, x := range []struct {
		billed, charge int64
		want           []int64
	}{
		{0, 40, []int64{0, 0, 40, -40}},
		{40, 0, []int64{40, -40, 0, 0}},
		{40, 40, []int64{40, 0, 0, -40}},
		{50, 40, []int64{50, -10, 0, -40}},
		{40, 50, []int64{40, 0, 10, -50}},
		{most, most, []int64{most, 0, 0, -most}},
		{most, 0, []int64{most, -most, 0, 0}},
		{0, most, []int64{0, 0, most, -most}},
		{1, most, []int64{1, 0, most - 1, -most}},
		{most, 1, []int64{most, 1 - most, 0, -1}},
	} {
		d := newDesk(t, weeks(2))
		d.sign(39, row(byDay, x.charge, 1, 28))
		if x.billed > 0 {
			d.must(bill, 39, 28, x.billed)
		}
		d.close(1)
		moved, stays := []int64{39}, []int64{39}
		for _, n := range x.want {
			moved, stays = append(moved, 0, n), append(stays, n, 0)
		}
		d.tells(0, moved)
		d.tells(1, stays)
	}
}

// P19.2: amounts of the greatest size, which turn from one side to the other.
func TestRowsOfMuch(t *testing.T) {
	d := newDesk(t, weeks(4))
	d.sign(1, row(byDay, most, 1, 28))
	d.close(1)
	d.must(bill, 1, 29, most)
	d.must(afresh, 1, 30, -most)
	d.close(1)
	d.tells(0, []int64{1, 0, 0, 0, 0, 0, most, 0, -most})
	d.tells(1, []int64{1, 0, most, 0, -most, most, -most, -most, most})
	d.tells(2, []int64{1, most, 0, -most, 0, 0, 0, 0, 0})
	d.must(afresh, 1, 30, most)
	d.close(1)
	d.tells(2, []int64{1, most, 0, -most, most, 0, 0, 0, -most})
	d.tells(3, []int64{1, most, 0, 0, 0, 0, 0, -most, 0})
	d.same()
}

// P19.2: all contracts that there may be, by their numbers, though they were signed and billed in other orders.
func TestRowsOfAll(t *testing.T) {
	d := newDesk(t, weeks(3))
	for n := range int64(mostContracts) {
		number := n * 7 % mostContracts
		d.sign(number, row(byDay, 56*(number+1), 1, 56))
	}
	for n := range int64(mostContracts) {
		number := (n*11 + 5) % mostContracts
		if number%3 > 0 {
			d.must(bill, number, 28, 28*(number+2))
		}
		d.same()
	}
	d.close(1)
	var want [][]int64
	for number := range int64(mostContracts) {
		x := []int64{number, 0, 0, 0, 0, 0, 28 * (number + 1), 0, -28 * (number + 1)}
		if number%3 > 0 {
			x = []int64{number, 0, 28 * (number + 2), 0, -28, 0, 0, 0, -28 * (number + 1)}
		}
		want = append(want, x)
	}
	d.tells(0, want...)
	d.same()
	d.close(1)
	d.same()
}

// P19.2: bytes read back as the rows, just.
func TestBytesBack(t *testing.T) {
	d := newDesk(t, weeks(4))
	next := random()
	for number := range int64(mostContracts) {
		if number%4 < 3 {
			d.sign(number, row(byDay, 1<<next(63), 1, int64(1+next(119))))
		}
	}
	for period := range 4 {
		for range 30 {
			d.do(bill, int64(next(mostContracts)), int64(d.last(period)), 1<<next(62))
		}
		for again := range 2 {
			d.mustReadBack(period)
			if again == 0 {
				d.close(1)
			}
		}
	}
}

// mustReadBack holds that a period's bytes read back as its rows.
func (d *desk) mustReadBack(period int) {
	d.t.Helper()
	rows, _ := report.Rows(d.e, period)
	texts, errno := codec.Parts(d.bytes(period))
	if len(texts) != len(rows) || errno != api.OK {
		d.t.Fatalf("Bytes of %d: %d texts, %d, not %d", period, len(texts), errno, len(rows))
	}
	for i, text := range texts {
		c, errno := codec.Read(text)
		if c.Kind != rows[i].Kind || !slices.Equal(c.Args, rows[i].Args) || errno != api.OK {
			d.t.Fatalf("text %d of %d: %v, %d, not %v", i, period, c, errno, rows[i])
		}
	}
}

// R3, R5: what a caller does with rows and with their Args changes no later ones, nor each other's.
func TestRowsWrittenOver(t *testing.T) {
	d := newDesk(t, weeks(4))
	for number := range int64(5) {
		d.sign(number, row(byDay, 100, 1, 56))
		d.must(bill, number, 28, 10*number+1)
	}
	d.close(1)
	want := d.rows(1)
	for range 3 {
		got, _ := report.Rows(d.e, 1)
		for i, x := range got {
			if !slices.Equal(x.Args, want[i][1:]) {
				t.Fatalf("row %d: %v, not %v", i, x, want[i])
			}
			_ = append(x.Args, 1, 2, 3)
			for j := range x.Args {
				x.Args[j] = -7
			}
			got[i].Kind = 99
		}
		d.tells(1, want...)
	}
	d.close(1)
	d.same()
}
