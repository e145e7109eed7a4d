package filter_test

import (
	"math"
	"math/big"
	"slices"
	"testing"

	"timeball/api"
	"timeball/filter"
	"timeball/volley"
)

const (
	least    = math.MinInt64
	greatest = math.MaxInt64
	most     = 1 << 60 // of an Offset, on both sides of 0, of a Delay and of a Bound
	maxGate  = 1 << 50
)

// gates are gates that may be: at the ends, and between them.
var gates = []int64{1, 2, 10, 1000, 1<<32 + 1, maxGate - 1, maxGate}

// none is what stands where no sample is told.
var none volley.Sample

// sample tells a sample.
func sample(offset, delay, bound int64) volley.Sample {
	return volley.Sample{Offset: offset, Delay: delay, Bound: bound}
}

// of tells a number as one of any size.
func of(n int64) *big.Int { return big.NewInt(n) }

// sum tells a sum of any size.
func sum(a, b int64) *big.Int { return new(big.Int).Add(of(a), of(b)) }

// apart tells how far two Offsets are apart, as a number of any size.
func apart(a, b volley.Sample) *big.Int {
	n := new(big.Int).Sub(of(a.Offset), of(b.Offset))
	return n.Abs(n)
}

// between tells whether a number is from one to another one.
func between(n *big.Int, from, to int64) bool { return n.Cmp(of(from)) >= 0 && n.Cmp(of(to)) <= 0 }

// watched is a filter with what it must have: a list beside it, the eldest first, and numbers of any size.
type watched struct {
	*filter.Filter
	gate int64
	had  []volley.Sample
	row  int // how many spikes were refused in a row
}

// watch makes a filter that has samples already, each of which is taken.
func watch(t *testing.T, gate int64, had ...volley.Sample) *watched {
	t.Helper()
	f, e := filter.New(gate)
	if f == nil || e != api.OK {
		t.Fatalf("New(%d): %v, %d", gate, f, e)
	}
	w := &watched{Filter: f, gate: gate}
	w.look(t, "New")
	for _, s := range had {
		w.adds(t, s, true, api.OK)
	}
	return w
}

// best tells the best sample that must be there.
func (w *watched) best() (volley.Sample, bool) {
	best, is := none, false
	for _, s := range w.had {
		if !is || s.Delay <= best.Delay {
			best, is = s, true
		}
	}
	return best, is
}

// jitter tells what the jitter must be.
func (w *watched) jitter() *big.Int {
	best, _ := w.best()
	jitter := of(0)
	for _, s := range w.had {
		if n := apart(s, best); n.Cmp(jitter) > 0 {
			jitter = n
		}
	}
	return jitter
}

// spike tells whether a sample is a spike.
func (w *watched) spike(s volley.Sample) bool {
	best, _ := w.best()
	far := new(big.Int).Mul(of(w.gate), of(3))
	far.Add(far, w.jitter())
	return len(w.had) >= 2 && apart(s, best).Cmp(far) > 0
}

// look holds what the filter tells against what it must.
func (w *watched) look(t *testing.T, behind string) {
	t.Helper()
	want := slices.Clone(w.had)
	slices.Reverse(want)
	if got := w.Samples(); !slices.Equal(got, want) {
		t.Fatalf("gate %d, behind %s: Samples %v, want %v", w.gate, behind, got, want)
	}
	best, is := w.best()
	if got, gotIs := w.Best(); got != best || gotIs != is {
		t.Fatalf("gate %d, behind %s: Best of %v: %v, %v, want %v, %v", w.gate, behind, want, got, gotIs, best, is)
	}
	if got := w.Jitter(); of(got).Cmp(w.jitter()) != 0 {
		t.Fatalf("gate %d, behind %s: Jitter of %v: %d, want %d", w.gate, behind, want, got, w.jitter())
	}
	for _, s := range want {
		if best.Delay > s.Delay {
			t.Fatalf("gate %d, behind %s: the best one is %v, and there is %v", w.gate, behind, best, s)
		}
	}
}

// add lets a sample come, and tells what was answered, which is held against what it must be.
func (w *watched) add(t *testing.T, s volley.Sample) (bool, api.Errno) {
	t.Helper()
	want, wanted := true, api.OK
	switch {
	case !between(of(s.Offset), -most, most) || !between(of(s.Delay), 0, most) || !between(of(s.Bound), 0, most):
		want, wanted = false, api.ErrRange
	case w.spike(s) && w.row < 2:
		want = false
		w.row++
	default:
		w.row = 0
		w.had = append(w.had, s)
		w.had = w.had[max(len(w.had)-8, 0):]
	}
	got, e := w.Add(s)
	if got != want || e != wanted {
		t.Fatalf("gate %d: Add(%v) to %v: %v, %d, want %v, %d", w.gate, s, w.Samples(), got, e, want, wanted)
	}
	w.look(t, "Add")
	return got, e
}

// adds lets a sample come, and holds what was answered against what the test names, too.
func (w *watched) adds(t *testing.T, s volley.Sample, want bool, wanted api.Errno) {
	t.Helper()
	if got, e := w.add(t, s); got != want || e != wanted {
		t.Fatalf("gate %d: Add(%v): %v, %d, and the test names %v, %d", w.gate, s, got, e, want, wanted)
	}
}

// move lets a number of each sample be greater, if all of them stay from one number to 2^60.
func (w *watched) move(by, from int64, number func(s *volley.Sample) *int64) api.Errno {
	moved := slices.Clone(w.had)
	for i := range moved {
		n := number(&moved[i])
		if !between(sum(*n, by), from, most) {
			return api.ErrOver
		}
		*n = sum(*n, by).Int64()
	}
	w.had = moved
	return api.OK
}

// grow lets the Bounds grow, and tells what was answered, which is held against what it must be.
func (w *watched) grow(t *testing.T, by int64) api.Errno {
	t.Helper()
	want := api.ErrArg
	if by >= 0 {
		want = w.move(by, 0, func(s *volley.Sample) *int64 { return &s.Bound })
	}
	if got := w.Grow(by); got != want {
		t.Fatalf("gate %d: Grow(%d) of %v: %d, want %d", w.gate, by, w.Samples(), got, want)
	}
	w.look(t, "Grow")
	return want
}

// shift lets the Offsets be shifted, and tells what was answered, which is held against what it must be.
func (w *watched) shift(t *testing.T, by int64) api.Errno {
	t.Helper()
	want := w.move(by, -most, func(s *volley.Sample) *int64 { return &s.Offset })
	if got := w.Shift(by); got != want {
		t.Fatalf("gate %d: Shift(%d) of %v: %d, want %d", w.gate, by, w.Samples(), got, want)
	}
	w.look(t, "Shift")
	return want
}

// grows lets the Bounds grow, and holds what was answered against what the test names, too.
func (w *watched) grows(t *testing.T, by int64, want api.Errno) {
	t.Helper()
	if got := w.grow(t, by); got != want {
		t.Fatalf("gate %d: Grow(%d): %d, and the test names %d", w.gate, by, got, want)
	}
}

// shifts lets the Offsets be shifted, and holds what was answered against what the test names, too.
func (w *watched) shifts(t *testing.T, by int64, want api.Errno) {
	t.Helper()
	if got := w.shift(t, by); got != want {
		t.Fatalf("gate %d: Shift(%d): %d, and the test names %d", w.gate, by, got, want)
	}
}

// tells holds the best sample and the jitter against what the test names.
func (w *watched) tells(t *testing.T, best volley.Sample, jitter int64) {
	t.Helper()
	if got, is := w.Best(); got != best || !is || w.Jitter() != jitter {
		t.Fatalf("gate %d: Best of %v: %v, %v, Jitter %d, and the test names %v, %d", w.gate, w.Samples(), got, is, w.Jitter(), best, jitter)
	}
}

// drawn makes what tells numbers below others, that look like drawn ones, and are the same each time.
func drawn(n uint64) func(below int) int {
	return func(below int) int {
		n = n*6364136223846793005 + 1442695040888963407
		return int(n >> 33 % uint64(below))
	}
}

// scrawl writes a list over.
func scrawl(l []volley.Sample) {
	for i := range l {
		l[i] = sample(-77, -78, -79)
	}
	_ = append(l, none, none)
}

// wrong are samples that may not be, for one of their numbers or for more.
func wrong() []volley.Sample {
	var all []volley.Sample
	for _, n := range []int64{least, least + 1, -most - 1, most + 1, greatest - 1, greatest} {
		all = append(all, sample(n, 0, 0), sample(0, n, 0), sample(0, 0, n), sample(n, n, n), sample(n, 5, 0), sample(5, n, 5))
	}
	for _, n := range []int64{-most, -2, -1} {
		all = append(all, sample(0, n, 0), sample(0, 0, n), sample(most, n, most), sample(-most, most, n), sample(0, n, n))
	}
	return all
}

// P15.1: New

func TestNewOfAllGates(t *testing.T) {
	for _, gate := range gates {
		w := watch(t, gate)
		if s, is := w.Best(); s != none || is || w.Jitter() != 0 || len(w.Samples()) != 0 {
			t.Errorf("New(%d): Best %v, %v, Jitter %d, Samples %v", gate, s, is, w.Jitter(), w.Samples())
		}
	}
	for _, gate := range []int64{least, least + 1, -maxGate, -10, -1, 0, maxGate + 1, most, greatest - 1, greatest} {
		if f, e := filter.New(gate); f != nil || e != api.ErrArg {
			t.Errorf("New(%d): %v, %d", gate, f, e)
		}
	}
}

// P15.1: Add

func TestExample(t *testing.T) {
	for _, gate := range gates {
		w := watch(t, gate)
		w.adds(t, sample(5, 9, 0), true, api.OK)
		w.tells(t, sample(5, 9, 0), 0)
		w.adds(t, sample(7, 4, 0), true, api.OK)
		w.tells(t, sample(7, 4, 0), 2)
		w.adds(t, sample(6, 4, 0), true, api.OK)
		w.tells(t, sample(6, 4, 0), 1)
	}
}

func TestAddOfOrdinarySamples(t *testing.T) {
	w := watch(t, 10)
	w.adds(t, sample(5, 9, 1), true, api.OK)
	w.adds(t, sample(1000, 20, 1), true, api.OK)
	w.tells(t, sample(5, 9, 1), 995)
	w.adds(t, sample(1031, 4, 1), false, api.OK)
	w.adds(t, sample(1030, 4, 1), true, api.OK)
	w.tells(t, sample(1030, 4, 1), 1025)
	w.adds(t, sample(-26, 4, 1), false, api.OK)
	w.adds(t, sample(-25, 5, 1), true, api.OK)
	w.tells(t, sample(1030, 4, 1), 1055)
	w.adds(t, sample(1030+1055+30, 0, 1), true, api.OK)
	w.tells(t, sample(2115, 0, 1), 2140)
}

// Each of a sample's numbers by itself, at the ends of what it may be, and of 64 bits.
func TestAddOfNumbersAtTheirEnds(t *testing.T) {
	for _, had := range [][]volley.Sample{nil, {sample(0, 5, 0)}, {sample(-most, 5, 0), sample(most, 5, 0)}} {
		for _, n := range []int64{-most, 1 - most, -1, 0, 1, most - 1, most} {
			watch(t, 1, had...).adds(t, sample(n, 0, 0), true, api.OK)
			watch(t, 1, had...).adds(t, sample(n, most, most), true, api.OK)
		}
		for _, n := range []int64{0, 1, most - 1, most} {
			watch(t, 1, had...).adds(t, sample(0, n, 0), true, api.OK)
			watch(t, 1, had...).adds(t, sample(0, 0, n), true, api.OK)
		}
		for _, s := range wrong() {
			watch(t, 1, had...).adds(t, s, false, api.ErrRange)
			watch(t, maxGate, had...).adds(t, s, false, api.ErrRange)
		}
	}
}

// A sample that may not be is neither taken nor a spike: as many more are refused as without it.
func TestAnErrorChangesNothing(t *testing.T) {
	spike := sample(1000, 1, 1)
	for row := range 4 {
		for _, s := range wrong() {
			w := watch(t, 10, sample(5, 9, 1), sample(7, 4, 2))
			for range row {
				w.add(t, spike)
			}
			w.adds(t, s, false, api.ErrRange)
			w.adds(t, s, false, api.ErrRange)
			w.adds(t, s, false, api.ErrRange)
			w.adds(t, spike, row >= 2, api.OK)
		}
	}
}

// Of fewer than 2 samples none is a spike, however far it is.
func TestAddToFewSamples(t *testing.T) {
	for _, gate := range gates {
		for _, far := range []int64{3*gate + 1, 4 * gate, most - 1, most} {
			for _, far := range []int64{far, -far} {
				watch(t, gate).adds(t, sample(far, 1, 1), true, api.OK)
				watch(t, gate, sample(0, 1, 1)).adds(t, sample(far, 1, 1), true, api.OK)
				watch(t, gate, sample(-far, 1, 1)).adds(t, sample(far, 1, 1), true, api.OK)
				watch(t, gate, sample(0, 1, 1), sample(0, 1, 1)).adds(t, sample(far, 1, 1), false, api.OK)
			}
		}
	}
}

// edges holds the farthest offset that isn't a spike, and the next one, against what the filter says, on both sides.
func edges(t *testing.T, gate, far int64, had ...volley.Sample) {
	t.Helper()
	best, _ := watch(t, gate, had...).Best()
	for _, delay := range []int64{0, best.Delay, most} {
		for _, side := range []int64{-1, 1} {
			watch(t, gate, had...).adds(t, sample(best.Offset+side*(far-1), delay, 3), true, api.OK)
			watch(t, gate, had...).adds(t, sample(best.Offset+side*far, delay, 3), true, api.OK)
			watch(t, gate, had...).adds(t, sample(best.Offset+side*(far+1), delay, 3), false, api.OK)
			watch(t, gate, had...).adds(t, sample(best.Offset+side*(far+gate), delay, 3), false, api.OK)
		}
	}
}

func TestTheFarthestThatIsNoSpike(t *testing.T) {
	for _, gate := range gates {
		for _, at := range []int64{0, 7, -7, 1 << 55, -1 << 55} {
			for _, jitter := range []int64{0, 1, gate, 3*gate - 1, 3 * gate, 3*gate + 1, 4 * gate, 100 * gate} {
				best := sample(at, 4, 0)
				edges(t, gate, 3*gate+jitter, best, sample(at+jitter, 9, 0))
				edges(t, gate, 3*gate+jitter, sample(at-jitter, 9, 0), best)
				edges(t, gate, 3*gate+jitter, best, sample(at-jitter, 9, 0), sample(at+jitter/2, 9, 0))
				edges(t, gate, 3*gate+jitter, sample(at+jitter, 9, 0), best, sample(at, 9, 0), sample(at-jitter, 5, 0))
			}
		}
	}
}

// The jump is told from the best one, not from the newest nor from the nearest one.
func TestASpikeIsFarFromTheBestOne(t *testing.T) {
	w := watch(t, 10, sample(0, 4, 1), sample(500, 9, 1))
	w.adds(t, sample(530, 9, 1), true, api.OK)
	w.adds(t, sample(561, 9, 1), false, api.OK)
	w.adds(t, sample(-560, 9, 1), true, api.OK)
	w.adds(t, sample(-591, 9, 1), false, api.OK)
	w.adds(t, sample(590, 3, 1), true, api.OK)
	w.tells(t, sample(590, 3, 1), 1150)
	w.adds(t, sample(-591, 3, 1), false, api.OK)
	w.adds(t, sample(1770, 3, 1), true, api.OK)
}

// Offsets at both ends, as far apart as they may be.
func TestTheGreatestJitter(t *testing.T) {
	for _, gate := range gates {
		w := watch(t, gate, sample(-most, 4, 0), sample(most, 9, 0))
		w.tells(t, sample(-most, 4, 0), 2*most)
		w.adds(t, sample(most, 0, 0), true, api.OK)
		w.adds(t, sample(-most, 0, 0), true, api.OK)
		w.tells(t, sample(-most, 0, 0), 2*most)
		w = watch(t, gate, sample(-most, 4, 0), sample(-most, 4, 0))
		w.adds(t, sample(most, 4, 0), false, api.OK)
		w.adds(t, sample(3*gate-most, 4, 0), true, api.OK)
		w = watch(t, gate, sample(most, 4, 0), sample(most, 4, 0))
		w.adds(t, sample(-most, 4, 0), false, api.OK)
		w.adds(t, sample(most-3*gate-1, 4, 0), false, api.OK)
		w.adds(t, sample(most-3*gate-1, 4, 0), true, api.OK)
	}
}

// Delay and Bound make no spike.
func TestASpikeIsOfOffsetsAlone(t *testing.T) {
	w := watch(t, 1, sample(0, 4, 4), sample(0, 4, 4))
	w.adds(t, sample(3, most, 0), true, api.OK)
	w.adds(t, sample(-3, 4, most), true, api.OK)
	w.adds(t, sample(0, 0, 0), true, api.OK)
}

func TestTheThirdSpikeInARow(t *testing.T) {
	for _, gate := range gates {
		w := watch(t, gate, sample(0, 4, 1), sample(0, 9, 1))
		for _, delay := range []int64{0, 4, most} {
			at := w.Samples()[0].Offset
			far := at + 100*gate
			w.adds(t, sample(far, delay, 1), false, api.OK)
			w.adds(t, sample(at-100*gate, delay, 1), false, api.OK)
			w.adds(t, sample(far, delay, 1), true, api.OK)
			w = watch(t, gate, sample(far, 4, 1), sample(far, 9, 1))
		}
	}
}

// Behind the third spike, which was taken, two more are refused again.
func TestSpikesBehindTheThird(t *testing.T) {
	w := watch(t, 10, sample(0, 1, 1), sample(0, 1, 1))
	for far := int64(1000); far < most/3; far *= 3 {
		w.adds(t, sample(far, 9, 1), false, api.OK)
		w.adds(t, sample(far, 9, 1), false, api.OK)
		w.adds(t, sample(far, 9, 1), true, api.OK)
	}
}

// A sample that is taken breaks the row: one that is no spike, too.
func TestATakenSampleBreaksTheRow(t *testing.T) {
	spike, ordinary := sample(1000, 9, 1), sample(1, 9, 1)
	w := watch(t, 10, sample(0, 4, 1), sample(0, 9, 1))
	for range 5 {
		w.adds(t, spike, false, api.OK)
		w.adds(t, ordinary, true, api.OK)
		w.adds(t, spike, false, api.OK)
		w.adds(t, spike, false, api.OK)
		w.adds(t, ordinary, true, api.OK)
	}
	w.adds(t, spike, false, api.OK)
	w.adds(t, spike, false, api.OK)
	w.adds(t, spike, true, api.OK)
	w.adds(t, sample(9000, 9, 1), false, api.OK)
}

// What was refused in a row stays so behind all that takes no sample.
func TestNothingElseBreaksTheRow(t *testing.T) {
	spike := sample(1000, 9, 1)
	for row := range 3 {
		w := watch(t, 10, sample(0, 4, 1), sample(0, 9, 1))
		for range row {
			w.adds(t, spike, false, api.OK)
		}
		w.shifts(t, 5, api.OK)
		w.shifts(t, -5, api.OK)
		w.shifts(t, greatest, api.ErrOver)
		w.grows(t, 5, api.OK)
		w.grows(t, -5, api.ErrArg)
		w.grows(t, most, api.ErrOver)
		w.adds(t, sample(1000, -1, 1), false, api.ErrRange)
		w.look(t, "all")
		w.adds(t, spike, row == 2, api.OK)
	}
}

// What is a spike is asked of the samples as they are: a shift may make one of what was none, and the other way round.
func TestSpikesBehindAShift(t *testing.T) {
	w := watch(t, 10, sample(0, 4, 1), sample(5, 9, 1))
	w.adds(t, sample(1000, 9, 1), false, api.OK)
	w.shifts(t, 965, api.OK)
	w.adds(t, sample(0, 9, 1), false, api.OK)
	w.adds(t, sample(1000, 9, 1), true, api.OK)
	w.adds(t, sample(899, 9, 1), false, api.OK)
	w.adds(t, sample(900, 9, 1), true, api.OK)
}

func TestStages(t *testing.T) {
	if filter.Stages != 8 {
		t.Fatalf("Stages %d", filter.Stages)
	}
	for _, many := range []int{1, 2, 7, 8, 9, 10, 15, 16, 17, 24, 25, 80} {
		w := watch(t, 100)
		for i := range int64(many) {
			w.adds(t, sample(i, 90-i, 2*i), true, api.OK)
		}
		l := w.Samples()
		if len(l) != min(many, 8) || l[0] != sample(int64(many-1), 91-int64(many), 2*int64(many-1)) {
			t.Errorf("of %d: %v", many, l)
		}
		for i, s := range l {
			if s.Offset != int64(many-1-i) {
				t.Errorf("of %d: %v", many, l)
			}
		}
	}
}

// P15.2: Best

func TestTheBestOfNone(t *testing.T) {
	w := watch(t, 10)
	w.adds(t, sample(0, -1, 0), false, api.ErrRange)
	w.grows(t, 5, api.OK)
	w.shifts(t, 5, api.OK)
	if s, is := w.Best(); s != none || is || w.Jitter() != 0 || len(w.Samples()) != 0 {
		t.Errorf("Best %v, %v, Jitter %d, Samples %v", s, is, w.Jitter(), w.Samples())
	}
}

func TestTheBestOfOne(t *testing.T) {
	for _, s := range []volley.Sample{none, sample(5, 9, 1), sample(-5, 0, 0), sample(-most, most, most), sample(most, 0, most)} {
		w := watch(t, 10, s)
		w.tells(t, s, 0)
	}
}

// Of as great Delays the newest sample counts, wherever they lie.
func TestTheBestOfTheSameDelay(t *testing.T) {
	for _, delay := range []int64{0, 4, most} {
		w := watch(t, 100)
		for i := range int64(20) {
			w.adds(t, sample(i, delay, 30-i), true, api.OK)
			w.tells(t, sample(i, delay, 30-i), min(i, 7))
		}
	}
	w := watch(t, 10, sample(1, 4, 0), sample(2, 4, 0), sample(3, 4, 0), sample(4, 5, 0), sample(5, 6, 0))
	w.tells(t, sample(3, 4, 0), 2)
	w.adds(t, sample(6, 4, 0), true, api.OK)
	w.tells(t, sample(6, 4, 0), 5)
	w.adds(t, sample(7, 3, 0), true, api.OK)
	w.tells(t, sample(7, 3, 0), 6)
}

// The best one goes when it is the eldest of more than Stages, and the next best one counts.
func TestTheBestOneGoes(t *testing.T) {
	w := watch(t, 100, sample(1, 2, 1), sample(2, 5, 1), sample(3, 4, 1), sample(4, 4, 1), sample(5, 9, 1), sample(6, 9, 1), sample(7, 9, 1))
	w.adds(t, sample(8, 9, 1), true, api.OK)
	w.tells(t, sample(1, 2, 1), 7)
	w.adds(t, sample(9, 9, 1), true, api.OK)
	w.tells(t, sample(4, 4, 1), 5)
	w.adds(t, sample(10, 3, 1), true, api.OK)
	w.tells(t, sample(10, 3, 1), 7)
}

// A spike that is refused lets no sample go.
func TestASpikeLetsNoneGo(t *testing.T) {
	w := watch(t, 1)
	w.adds(t, sample(0, 1, 1), true, api.OK)
	for range 7 {
		w.adds(t, sample(1, 9, 1), true, api.OK)
	}
	w.adds(t, sample(50, 0, 1), false, api.OK)
	w.adds(t, sample(50, 0, 1), false, api.OK)
	w.tells(t, sample(0, 1, 1), 1)
	w.adds(t, sample(50, 9, 1), true, api.OK)
	w.tells(t, sample(50, 9, 1), 49)
}

// P15.2: Jitter

func TestJitterOnOneSideAndOnBoth(t *testing.T) {
	best := sample(100, 1, 0)
	for _, c := range []struct {
		offsets []int64
		jitter  int64
	}{{[]int64{100}, 0}, {[]int64{100, 100}, 0}, {[]int64{101}, 1}, {[]int64{99}, 1}, {[]int64{130, 110}, 30}, {[]int64{70, 90}, 30}, {[]int64{130, 71}, 30}, {[]int64{129, 70}, 30}, {[]int64{130, 70}, 30}, {[]int64{70, 100, 101, 99}, 30}, {[]int64{101, 102, 103, 104, 105, 106, 107}, 7}, {[]int64{-100, 199}, 200}} {
		for _, turned := range []bool{false, true} {
			offsets := slices.Clone(c.offsets)
			if turned {
				slices.Reverse(offsets)
			}
			for at := range len(offsets) + 1 {
				w := watch(t, 1000)
				for i, offset := range offsets {
					if i == at {
						w.adds(t, best, true, api.OK)
					}
					w.adds(t, sample(offset, 9, 0), true, api.OK)
				}
				if at == len(offsets) {
					w.adds(t, best, true, api.OK)
				}
				w.tells(t, best, c.jitter)
			}
		}
	}
}

// The jitter is of the samples that there are: one that went counts no more.
func TestJitterOfASampleThatWent(t *testing.T) {
	w := watch(t, 1, sample(500, 9, 0), sample(0, 1, 0))
	w.tells(t, sample(0, 1, 0), 500)
	for i := range int64(6) {
		w.adds(t, sample(i, 9, 0), true, api.OK)
	}
	w.tells(t, sample(0, 1, 0), 500)
	w.adds(t, sample(0, 9, 0), true, api.OK)
	w.tells(t, sample(0, 1, 0), 5)
}

// P15.2: Samples

func TestSamplesMayBeWrittenOver(t *testing.T) {
	w := watch(t, 10)
	for i := range int64(20) {
		scrawl(w.Samples())
		w.look(t, "scrawl")
		w.adds(t, sample(i, 20-i, i), true, api.OK)
		scrawl(w.Samples())
		w.look(t, "scrawl")
		w.shift(t, i)
		scrawl(w.Samples())
		w.grow(t, i)
	}
}

func TestSamplesStayAsTheyWereTold(t *testing.T) {
	w := watch(t, 1<<40)
	var told, want [][]volley.Sample
	mind := func() {
		told = append(told, w.Samples())
		want = append(want, slices.Clone(told[len(told)-1]))
	}
	for i := range int64(20) {
		mind()
		w.adds(t, sample(i, 20-i, i), true, api.OK)
		mind()
		w.shifts(t, 100, api.OK)
		mind()
		w.grows(t, 100, api.OK)
	}
	for i := range told {
		if !slices.Equal(told[i], want[i]) {
			t.Fatalf("told %v, and now it is %v", want[i], told[i])
		}
	}
	scrawl(told[30])
	if !slices.Equal(told[29], want[29]) || !slices.Equal(told[31], want[31]) {
		t.Error("two lists share what they hold")
	}
	w.look(t, "all")
}

// P15.3: Grow

func TestGrow(t *testing.T) {
	w := watch(t, 10, sample(5, 9, 0), sample(7, 4, 3), sample(6, 4, most-100))
	w.grows(t, 0, api.OK)
	w.grows(t, 1, api.OK)
	w.grows(t, 40, api.OK)
	if want := []volley.Sample{sample(6, 4, most-59), sample(7, 4, 44), sample(5, 9, 41)}; !slices.Equal(w.Samples(), want) {
		t.Errorf("%v", w.Samples())
	}
	w.grows(t, 60, api.ErrOver)
	w.grows(t, 59, api.OK)
	w.grows(t, 1, api.ErrOver)
	w.grows(t, 0, api.OK)
	w.grows(t, -1, api.ErrArg)
}

// Just to the edge, and one past it, wherever the greatest Bound lies.
func TestGrowAtTheEdge(t *testing.T) {
	for _, bound := range []int64{0, 1, 5, 1 << 59, most - 1, most} {
		for _, many := range []int{1, 2, 7, 8, 9} {
			for at := max(many-8, 0); at < many; at++ {
				w := watch(t, 10)
				for i := range many {
					if i == at {
						w.adds(t, sample(1, 5, bound), true, api.OK)
						continue
					}
					w.adds(t, sample(0, 5, bound/2), true, api.OK)
				}
				for _, by := range []int64{most - bound + 1, 2*most - bound, most + 1, greatest - bound, greatest - 1, greatest} {
					w.grows(t, by, api.ErrOver)
				}
				w.grows(t, most-bound, api.OK)
				w.grows(t, 1, api.ErrOver)
			}
		}
	}
}

func TestGrowBelowNone(t *testing.T) {
	for _, had := range [][]volley.Sample{nil, {none}, {sample(0, 0, most)}, {sample(most, most, 5), sample(-most, 0, 9)}} {
		for _, by := range []int64{least, least + 1, -most - 1, -most, -9, -5, -1} {
			watch(t, 10, had...).grows(t, by, api.ErrArg)
		}
		watch(t, 10, had...).grows(t, 0, api.OK)
	}
}

// Of no samples none is too great.
func TestGrowAndShiftOfNone(t *testing.T) {
	for _, by := range []int64{0, 1, most, most + 1, greatest - 1, greatest} {
		watch(t, 10).grows(t, by, api.OK)
	}
	for _, by := range []int64{least, least + 1, -most - 1, -1, 0, 1, most + 1, greatest - 1, greatest} {
		w := watch(t, 10)
		w.shifts(t, by, api.OK)
		w.adds(t, sample(5, 6, 7), true, api.OK)
		w.tells(t, sample(5, 6, 7), 0)
	}
}

// P15.3: Shift

func TestShift(t *testing.T) {
	w := watch(t, 10, sample(5, 9, 1), sample(7, 4, 2), sample(6, 4, 3))
	w.shifts(t, 100, api.OK)
	w.tells(t, sample(106, 4, 3), 1)
	w.shifts(t, 0, api.OK)
	w.shifts(t, -206, api.OK)
	w.tells(t, sample(-100, 4, 3), 1)
	if want := []volley.Sample{sample(-100, 4, 3), sample(-99, 4, 2), sample(-101, 9, 1)}; !slices.Equal(w.Samples(), want) {
		t.Errorf("%v", w.Samples())
	}
}

// Just to the edge, and one past it, on both sides, wherever the outermost Offset lies.
func TestShiftAtTheEdge(t *testing.T) {
	for _, offset := range []int64{-most, -most + 1, -5, 0, 1, 5, 1 << 59, most - 1, most} {
		for _, many := range []int{1, 2, 7, 8, 9} {
			for at := max(many-8, 0); at < many; at++ {
				w := watch(t, 10)
				for i := range many {
					if i == at {
						w.adds(t, sample(offset, 5, 1), true, api.OK)
						continue
					}
					w.adds(t, sample(offset-offset/max(offset, -offset, 1), 5, 1), true, api.OK)
				}
				highest, lowest := offset, offset
				for _, s := range w.Samples() {
					highest, lowest = max(highest, s.Offset), min(lowest, s.Offset)
				}
				for _, by := range []int64{most - highest + 1, 2*most + 1, greatest - 1, greatest, least, least + 1, -2*most - 1, -most - lowest - 1} {
					w.shifts(t, by, api.ErrOver)
				}
				w.shifts(t, most-highest, api.OK)
				w.shifts(t, 1, api.ErrOver)
				w.shifts(t, -most-lowest-most+highest, api.OK)
				w.shifts(t, -1, api.ErrOver)
			}
		}
	}
}

// From one end to the other, which is the farthest that one may be shifted.
func TestShiftFromEndToEnd(t *testing.T) {
	w := watch(t, 10, sample(-most, 5, 1))
	w.shifts(t, 2*most+1, api.ErrOver)
	w.shifts(t, 2*most, api.OK)
	w.tells(t, sample(most, 5, 1), 0)
	w.shifts(t, -2*most-1, api.ErrOver)
	w.shifts(t, -2*most, api.OK)
	w.tells(t, sample(-most, 5, 1), 0)
	w.adds(t, sample(most, 5, 1), true, api.OK)
	w.shifts(t, 1, api.ErrOver)
	w.shifts(t, -1, api.ErrOver)
	w.shifts(t, 0, api.OK)
}

// P15.4

func TestShiftThereAndBack(t *testing.T) {
	draw := drawn(5)
	for range 300 {
		w := watch(t, 1<<uint(draw(51)))
		for range draw(12) {
			w.add(t, sample(int64(draw(1<<20))-1<<19, int64(draw(4)), int64(draw(100))))
		}
		before, jitter := w.Samples(), w.Jitter()
		best, is := w.Best()
		for _, by := range []int64{0, 1, -1, int64(draw(1 << 30)), -int64(draw(1<<30)) << 20, 1 << 59, -1 << 59} {
			w.shifts(t, by, api.OK)
			for i, s := range w.Samples() {
				if s.Offset-by != before[i].Offset || s.Delay != before[i].Delay || s.Bound != before[i].Bound {
					t.Fatalf("Shift(%d) of %v: %v", by, before, w.Samples())
				}
			}
			shifted, still := w.Best()
			if w.Jitter() != jitter || still != is || is && shifted != sample(best.Offset+by, best.Delay, best.Bound) {
				t.Fatalf("Shift(%d) of %v: Best %v, Jitter %d", by, before, shifted, w.Jitter())
			}
			w.shifts(t, -by, api.OK)
			if !slices.Equal(w.Samples(), before) {
				t.Fatalf("Shift(%d) of %v, and back: %v", by, before, w.Samples())
			}
		}
	}
}

// offset draws an Offset: mostly one that is near 0 or somewhat farther, and some that are at the ends, or may not be.
func offset(draw func(below int) int, gate int64) int64 {
	side := int64(2*draw(2) - 1)
	switch draw(12) {
	case 0:
		return side * (most + 1 - int64(draw(3)))
	case 1:
		return side * int64(draw(1<<30)) << draw(32)
	case 2, 3:
		return side * (3*gate + int64(draw(3)) - 1)
	case 4, 5:
		return side * gate * int64(draw(10))
	default:
		return side * (gate + int64(draw(5)))
	}
}

// act does one act that is drawn.
func (w *watched) act(t *testing.T, draw func(below int) int) {
	t.Helper()
	switch n := draw(20); n {
	case 0:
		w.grow(t, []int64{least, -1, 0, 1, 1 << 40, 1 << 57, most, greatest}[draw(8)])
	case 1, 2:
		w.shift(t, offset(draw, w.gate))
	case 3:
		w.shift(t, []int64{least, -most - 1, -most, -1, 0, most, most + 1, greatest}[draw(8)])
	case 4:
		best, _ := w.best()
		edge := 3*w.gate + w.jitter().Int64() + int64(draw(2))
		w.add(t, sample(best.Offset+int64(2*draw(2)-1)*edge, int64(draw(9)), 1))
	case 5:
		scrawl(w.Samples())
		w.look(t, "scrawl")
	default:
		w.add(t, sample(offset(draw, w.gate), int64(draw(9))-int64(draw(40)/39), int64(draw(1<<20))))
	}
}

func TestLongRowsOfActs(t *testing.T) {
	for n := range 300 {
		draw := drawn(uint64(n))
		w := watch(t, gates[n%len(gates)])
		for range 300 {
			w.act(t, draw)
		}
	}
}

// Two filters that are moved by turns have nothing in common.
func TestTwoByTurns(t *testing.T) {
	for n := range 40 {
		draw := drawn(uint64(1000 + n))
		a, b := watch(t, gates[n%len(gates)]), watch(t, gates[draw(len(gates))])
		for range 200 {
			a.act(t, draw)
			b.look(t, "the other one's act")
			if draw(3) > 0 {
				b.act(t, draw)
				a.look(t, "the other one's act")
			}
		}
	}
}

// R4
func TestTheSameCallsAnswerTheSame(t *testing.T) {
	for n := range 40 {
		one, other := drawn(uint64(2000+n)), drawn(uint64(2000+n))
		a, b := watch(t, gates[n%len(gates)]), watch(t, gates[n%len(gates)])
		for range 200 {
			a.act(t, one)
			b.act(t, other)
			if !slices.Equal(a.Samples(), b.Samples()) || a.Jitter() != b.Jitter() || a.row != b.row {
				t.Fatalf("the same calls: %v, %v", a.Samples(), b.Samples())
			}
		}
	}
}
