package portion_test

import (
	"math"
	"math/big"
	"slices"
	"testing"

	"quitrent/api"
	"quitrent/portion"
)

const (
	most  = math.MaxInt64
	least = math.MinInt64
)

// totals are amounts at which portions turn over.
func totals() []int64 {
	return []int64{0, 1, -1, 2, -2, 3, 7, -7, 10, -10, 63, 64, 65, -100, 9999, 10000, 1000000007,
		1 << 32, -1 << 32, 1 << 62, -1 << 62, most - 1, most, least + 2, least + 1, least}
}

// mixed tells amounts of all sizes that aren't below 0, the same ones each time.
func mixed(count int) []int64 {
	l := make([]int64, count)
	state := uint64(88172645463325252)
	for i := range l {
		state ^= state << 13
		state ^= state >> 7
		state ^= state << 17
		l[i] = int64(state>>1) >> (i * 7 % 64)
	}
	return l
}

// weightLists are lists of weights whose sums are amounts, with some above 0.
func weightLists() [][]int64 {
	lists := [][]int64{
		{1}, {most}, {1, 1}, {1, 1, 1}, {0, 1}, {1, 0}, {0, 0, 7, 0}, {1, 5, 1}, {60, 60}, {2, 3, 5},
		{most - 1, 1}, {1, most - 1}, {most / 2, most / 2, 1}, {1 << 62, 1<<62 - 1}, {0, most, 0},
		slices.Repeat([]int64{1}, 64), slices.Repeat([]int64{most / 64}, 64), slices.Repeat([]int64{0, 3}, 32),
	}
	m := mixed(1200)
	for long := 1; long <= 64; long++ {
		few, many := make([]int64, long), make([]int64, long)
		for i := range few {
			few[i] = m[long*17+i] % 9
			many[i] = m[long*17+i] / 64
		}
		few[long/2]++
		many[long/3]++
		lists = append(lists, few, many)
	}
	return lists
}

// markLists are lists of marks that rise from 0 to a whole.
func markLists(whole int64) [][]int64 {
	lists := [][]int64{nil, {}, {0}, {whole}, {0, whole}, {0, 0, whole, whole}, {whole / 2, whole}, {whole / 3}, {1, 1, 1, whole}}
	m := mixed(800)
	for long := 1; long <= 64; long += 7 {
		marks := make([]int64, long)
		for i := range marks {
			marks[i] = m[long*11+i]
			if whole < most {
				marks[i] %= whole + 1
			}
		}
		slices.Sort(marks)
		lists = append(lists, marks)
	}
	return lists
}

func wholes() []int64 {
	return []int64{1, 2, 3, 7, 28, 10000, 1<<31 + 1, 1 << 62, most - 1, most}
}

func exactSum(l []int64) *big.Int {
	sum := new(big.Int)
	for _, n := range l {
		sum.Add(sum, big.NewInt(n))
	}
	return sum
}

// exactPart tells a part, rounded downward, and its rest.
func exactPart(a, part int64, whole *big.Int) (*big.Int, *big.Int) {
	product := new(big.Int).Mul(big.NewInt(a), big.NewInt(part))
	return new(big.Int).DivMod(product, whole, new(big.Int))
}

// greatest tells the place of the greatest number, of equal ones the first.
func greatest(l []*big.Int) int {
	best := 0
	for i, n := range l {
		if n.Cmp(l[best]) > 0 {
			best = i
		}
	}
	return best
}

// wantPortions works portions out as the document words them, with exact numbers.
func wantPortions(total int64, weights []int64) []int64 {
	sum, size, sign := exactSum(weights), total, int64(1)
	if total < 0 {
		size, sign = -total, -1
	}
	want, rests := make([]int64, len(weights)), make([]*big.Int, len(weights))
	for i, w := range weights {
		part, rest := exactPart(size, w, sum)
		want[i], rests[i] = part.Int64(), rest
	}
	for exactSum(want).Cmp(big.NewInt(size)) < 0 {
		i := greatest(rests)
		want[i]++
		rests[i] = big.NewInt(-1)
	}
	for i := range want {
		want[i] *= sign
	}
	return want
}

// mustOut tells portions that are no error.
func mustOut(t *testing.T, total int64, weights []int64) []int64 {
	t.Helper()
	got, errno := portion.Out(total, weights)
	if errno != api.OK || len(got) != len(weights) {
		t.Fatalf("Out(%d, %v): %v, %d", total, weights, got, errno)
	}
	return got
}

// mustSteps tells steps that are no error.
func mustSteps(t *testing.T, total int64, marks []int64, whole int64) []int64 {
	t.Helper()
	got, errno := portion.Steps(total, marks, whole)
	if errno != api.OK || len(got) != len(marks) {
		t.Fatalf("Steps(%d, %v, %d): %v, %d", total, marks, whole, got, errno)
	}
	return got
}

// P2.1, ordinary and at the edges that are named.
func TestOut(t *testing.T) {
	for _, c := range []struct {
		total         int64
		weights, want []int64
	}{
		{10, []int64{1, 5, 1}, []int64{2, 7, 1}},
		{-10, []int64{1, 5, 1}, []int64{-2, -7, -1}},
		{100, []int64{60, 60}, []int64{50, 50}},
		{0, []int64{3, 4}, []int64{0, 0}},
		{1, []int64{1, 1, 1}, []int64{1, 0, 0}},
		{2, []int64{1, 1, 1}, []int64{1, 1, 0}},
		{-2, []int64{1, 1, 1}, []int64{-1, -1, 0}},
		{5, []int64{1, 1, 1}, []int64{2, 2, 1}},
		{1, []int64{1, 2, 2}, []int64{0, 1, 0}},
		{1, []int64{1, 2, 3}, []int64{0, 0, 1}},
		{-1, []int64{1, 2, 3}, []int64{0, 0, -1}},
		{7, []int64{0, 1, 0, 1}, []int64{0, 4, 0, 3}},
		{9, []int64{0, 0, 2}, []int64{0, 0, 9}},
		{5, []int64{7}, []int64{5}},
		{most, []int64{most}, []int64{most}},
		{most, []int64{1}, []int64{most}},
		{least + 1, []int64{1}, []int64{least + 1}},
		{most, []int64{1, 1}, []int64{1 << 62, 1<<62 - 1}},
		{least + 1, []int64{1, 1}, []int64{-1 << 62, -1<<62 + 1}},
		{most, []int64{1, most - 1}, []int64{1, most - 1}},
		{1, []int64{most / 2, most/2 + 1}, []int64{0, 1}},
		{1, []int64{most/2 + 1, most / 2}, []int64{1, 0}},
	} {
		if got := mustOut(t, c.total, c.weights); !slices.Equal(got, c.want) {
			t.Errorf("Out(%d, %v): %v, not %v", c.total, c.weights, got, c.want)
		}
	}
}

// P2.1, with 64 weights, of which those that stand ahead get what is missing.
func TestOutByMostWeights(t *testing.T) {
	got := mustOut(t, 64*5+63, slices.Repeat([]int64{9}, 64))
	want := append(slices.Repeat([]int64{6}, 63), 5)
	if !slices.Equal(got, want) {
		t.Errorf("Out by 64: %v", got)
	}
}

// P2.1, held against exact numbers; the weights stay as they were.
func TestOutIsExact(t *testing.T) {
	for _, weights := range weightLists() {
		kept := slices.Clone(weights)
		for _, total := range append(totals(), mixed(40)...) {
			if total == least {
				continue
			}
			got := mustOut(t, total, weights)
			if want := wantPortions(total, weights); !slices.Equal(got, want) {
				t.Errorf("Out(%d, %v): %v, not %v", total, weights, got, want)
			}
			if !slices.Equal(weights, kept) {
				t.Fatalf("Out(%d, %v) changed its weights", total, kept)
			}
		}
	}
}

// P2.1, wrong inputs: the error that is named first.
func TestOutRefuses(t *testing.T) {
	over := []int64{most, 1}
	for _, c := range []struct {
		name    string
		total   int64
		weights []int64
		errno   api.Errno
	}{
		{"65 weights", 10, slices.Repeat([]int64{1}, 65), api.ErrFull},
		{"65, one below 0", 10, append(slices.Repeat([]int64{1}, 64), -1), api.ErrFull},
		{"65, none above 0", 10, make([]int64, 65), api.ErrFull},
		{"65, too great together, of the least total", least, slices.Repeat([]int64{most}, 65), api.ErrFull},
		{"none", 10, nil, api.ErrArg},
		{"an empty list", 10, []int64{}, api.ErrArg},
		{"none, of 0", 0, nil, api.ErrArg},
		{"0 alone", 10, []int64{0}, api.ErrArg},
		{"64 of 0", 0, make([]int64, 64), api.ErrArg},
		{"-1 first", 10, []int64{-1, 5}, api.ErrArg},
		{"-1 last", 10, []int64{5, 0, -1}, api.ErrArg},
		{"all below 0", 10, []int64{-3, -4}, api.ErrArg},
		{"the least weight", 10, []int64{least, 1}, api.ErrArg},
		{"sum no amount, one below 0", 10, []int64{most, most, -1}, api.ErrArg},
		{"sum no amount below", 10, []int64{least, least}, api.ErrArg},
		{"least total, none above 0", least, []int64{0, 0}, api.ErrArg},
		{"least total, one below 0", least, []int64{1, -1}, api.ErrArg},
		{"least total, none", least, nil, api.ErrArg},
		{"sum no amount", 10, over, api.ErrOver},
		{"sum no amount, of 0", 0, over, api.ErrOver},
		{"sum no amount, of a total below 0", -10, over, api.ErrOver},
		{"64 whose sum wraps to above 0", 10, slices.Repeat([]int64{most}, 64), api.ErrOver},
		{"three whose sum wraps to above 0", 10, []int64{most, most, 3}, api.ErrOver},
		{"least total", least, []int64{1, 2}, api.ErrOver},
		{"least total, one weight", least, []int64{1}, api.ErrOver},
		{"least total, sum no amount", least, over, api.ErrOver},
	} {
		if got, errno := portion.Out(c.total, c.weights); len(got) != 0 || errno != c.errno {
			t.Errorf("%s: %v, %d, not %d", c.name, got, errno, c.errno)
		}
	}
}

// P2.2, ordinary and at the edges that are named.
func TestSteps(t *testing.T) {
	for _, c := range []struct {
		total int64
		marks []int64
		whole int64
		want  []int64
	}{
		{10, []int64{1, 2, 3}, 3, []int64{3, 3, 4}},
		{-10, []int64{1, 2, 3}, 3, []int64{-4, -3, -3}},
		{100, []int64{28, 56}, 56, []int64{50, 50}},
		{50, []int64{4000}, api.Whole, []int64{20}},
		{10, nil, 3, nil},
		{10, []int64{}, 1, nil},
		{10, []int64{0}, 3, []int64{0}},
		{-10, []int64{0}, 3, []int64{0}},
		{10, []int64{3}, 3, []int64{10}},
		{-10, []int64{3}, 3, []int64{-10}},
		{10, []int64{0, 0, 3, 3}, 3, []int64{0, 0, 10, 0}},
		{10, []int64{2, 2, 2}, 3, []int64{6, 0, 0}},
		{-10, []int64{2, 2, 3}, 3, []int64{-7, 0, -3}},
		{0, []int64{1, 2, 3}, 3, []int64{0, 0, 0}},
		{5, []int64{0, 1}, 1, []int64{0, 5}},
		{most, []int64{most - 1, most}, most, []int64{most - 1, 1}},
		{least, []int64{most - 1, most}, most, []int64{least + 1, -1}},
		{most, []int64{0, 1}, 1, []int64{0, most}},
		{least, []int64{0, 1}, 1, []int64{0, least}},
		{least, []int64{1, 2}, 2, []int64{-1 << 62, -1 << 62}},
		{most, []int64{1, 2}, 2, []int64{1<<62 - 1, 1 << 62}},
	} {
		if got := mustSteps(t, c.total, c.marks, c.whole); !slices.Equal(got, c.want) {
			t.Errorf("Steps(%d, %v, %d): %v, not %v", c.total, c.marks, c.whole, got, c.want)
		}
	}
}

// P2.2, held against exact numbers at the amounts' ends, too: marks from 0 to the whole leave no step that is no amount. The marks stay as they were.
func TestStepsAreExact(t *testing.T) {
	for _, whole := range wholes() {
		for _, marks := range markLists(whole) {
			kept := slices.Clone(marks)
			for _, total := range append(totals(), mixed(20)...) {
				got := mustSteps(t, total, marks, whole)
				ahead := new(big.Int)
				for i, mark := range marks {
					part, _ := exactPart(total, mark, big.NewInt(whole))
					want := new(big.Int).Sub(part, ahead)
					if want.Cmp(big.NewInt(got[i])) != 0 {
						t.Errorf("Steps(%d, %v, %d): %d at %d, not %d", total, marks, whole, got[i], i, want)
					}
					ahead = part
				}
			}
			if !slices.Equal(marks, kept) {
				t.Fatalf("Steps changed its marks %v", kept)
			}
		}
	}
}

// P2.2, with 64 marks.
func TestStepsByMostMarks(t *testing.T) {
	marks := make([]int64, 64)
	for i := range marks {
		marks[i] = int64(i + 1)
	}
	if got := mustSteps(t, 640, marks, 64); !slices.Equal(got, slices.Repeat([]int64{10}, 64)) {
		t.Errorf("Steps by 64: %v", got)
	}
}

// P2.2, wrong inputs: the error that is named first.
func TestStepsRefuses(t *testing.T) {
	for _, c := range []struct {
		name  string
		total int64
		marks []int64
		whole int64
		errno api.Errno
	}{
		{"65 marks", 10, make([]int64, 65), 1, api.ErrFull},
		{"65, whole 0", 10, make([]int64, 65), 0, api.ErrFull},
		{"65, beyond the whole", 10, slices.Repeat([]int64{9}, 65), 1, api.ErrFull},
		{"65, one below 0", least, append(make([]int64, 64), -1), 1, api.ErrFull},
		{"whole 0", 10, []int64{0}, 0, api.ErrArg},
		{"whole 0, no marks", 10, nil, 0, api.ErrArg},
		{"whole below 0", 10, []int64{0}, -1, api.ErrArg},
		{"whole below 0, a mark of it", 10, []int64{-1}, -1, api.ErrArg},
		{"the least whole", 10, nil, least, api.ErrArg},
		{"a mark below 0", 10, []int64{-1, 2}, 3, api.ErrArg},
		{"the least mark", 10, []int64{least}, 3, api.ErrArg},
		{"a mark beyond the whole", 10, []int64{4}, 3, api.ErrArg},
		{"the last mark beyond the whole", 10, []int64{1, 3, 4}, 3, api.ErrArg},
		{"the greatest mark", most, []int64{most}, 1, api.ErrArg},
		{"a mark less than the one ahead", 10, []int64{2, 1}, 3, api.ErrArg},
		{"less, further on", 10, []int64{1, 3, 2, 3}, 3, api.ErrArg},
		{"less, at the whole", least, []int64{most, most - 1}, most, api.ErrArg},
	} {
		if got, errno := portion.Steps(c.total, c.marks, c.whole); len(got) != 0 || errno != c.errno {
			t.Errorf("%s: %v, %d, not %d", c.name, got, errno, c.errno)
		}
	}
}

// P2.3, of portions: together the total, each less than one unit from its exact part.
func TestPortionsAreTheTotal(t *testing.T) {
	for _, weights := range weightLists() {
		sum := exactSum(weights)
		for _, total := range append(totals(), mixed(40)...) {
			if total == least {
				continue
			}
			got := mustOut(t, total, weights)
			if exactSum(got).Cmp(big.NewInt(total)) != 0 {
				t.Errorf("Out(%d, %v): %v", total, weights, got)
			}
			for i, w := range weights {
				// A portion times the sum, less the total times its weight, is less than the sum.
				off := new(big.Int).Mul(big.NewInt(got[i]), sum)
				off.Sub(off, new(big.Int).Mul(big.NewInt(total), big.NewInt(w)))
				if off.CmpAbs(sum) >= 0 {
					t.Errorf("Out(%d, %v): %d at %d is too far off", total, weights, got[i], i)
				}
			}
		}
	}
}

// P2.3, of steps: up to the whole they are the total, together.
func TestStepsUpToTheWholeAreTheTotal(t *testing.T) {
	for _, whole := range wholes() {
		for _, marks := range markLists(whole) {
			marks = append(slices.Clone(marks[:min(len(marks), 63)]), whole)
			for _, total := range totals() {
				got := mustSteps(t, total, marks, whole)
				if exactSum(got).Cmp(big.NewInt(total)) != 0 {
					t.Errorf("Steps(%d, %v, %d): %v", total, marks, whole, got)
				}
			}
		}
	}
}

// P2.3, of steps: marks between others leave what is up to each of these as it was.
func TestMarksBetween(t *testing.T) {
	for _, whole := range wholes() {
		for _, marks := range markLists(whole) {
			var few []int64
			for i := 2; i < len(marks); i += 3 {
				few = append(few, marks[i])
			}
			for _, total := range totals() {
				all, some := mustSteps(t, total, marks, whole), mustSteps(t, total, few, whole)
				for i := range some {
					if exactSum(all[3*i:3*i+3]).Cmp(big.NewInt(some[i])) != 0 {
						t.Errorf("Steps(%d, %v, %d): %v, with few marks %v", total, marks, whole, all, some)
					}
				}
			}
		}
	}
}

// R3, R4 and R5: an answer is new memory, and the same calls answer the same.
func TestAnswersShareNothing(t *testing.T) {
	weights, marks := []int64{1, 5, 1}, []int64{1, 2, 3}
	shares, steps := mustOut(t, 10, weights), mustSteps(t, 10, marks, 3)
	for i := range 3 {
		shares[i], steps[i] = -77, -77
	}
	if !slices.Equal(weights, []int64{1, 5, 1}) || !slices.Equal(marks, []int64{1, 2, 3}) {
		t.Errorf("an answer is an argument's memory: %v, %v", weights, marks)
	}
	if again := mustOut(t, 10, weights); !slices.Equal(again, []int64{2, 7, 1}) {
		t.Errorf("Out, again: %v", again)
	}
	if again := mustSteps(t, 10, marks, 3); !slices.Equal(again, []int64{3, 3, 4}) {
		t.Errorf("Steps, again: %v", again)
	}
}
