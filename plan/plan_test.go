package plan_test

import (
	"math"
	"math/big"
	"testing"

	"timeball/api"
	"timeball/plan"
)

const (
	least    = math.MinInt64
	greatest = math.MaxInt64
	edge     = 1 << 60
	longest  = 1 << 40
	second   = 1 << 32
)

// example is the chapter's plan.
var example = plan.Plan{Start: 100, Length: 10, Delay: 2, Count: 5}

// What a plan's parts may be, and what they may not.
var (
	starts  = []int64{-edge, -edge + 1, -second, -1, 0, 1, 100, edge - 1, edge}
	lengths = []int64{1, 2, 10, second, longest - 1, longest}
	delays  = []int{1, 2, 15, 16}
	counts  = []int{1, 2, 5, 15, 16, 17, 1023, 1024}

	startsBeyond  = []int64{least, least + 1, -2 * edge, -edge - 1, edge + 1, 2 * edge, greatest - 1, greatest}
	lengthsBeyond = []int64{least, -longest, -10, -1, 0, longest + 1, 2 * longest, greatest - 1, greatest}
	delaysBeyond  = []int{math.MinInt, -16, -1, 0, 17, 18, 1 << 32, 1<<32 + 1, math.MaxInt - 1, math.MaxInt}
	countsBeyond  = []int{math.MinInt, -5, -1, 0, 1025, 1026, 1 << 32, 1<<32 + 1, math.MaxInt - 1, math.MaxInt}
)

// plansOf tells all plans of such parts.
func plansOf(starts, lengths []int64, delays, counts []int) []plan.Plan {
	var told []plan.Plan
	for _, start := range starts {
		for _, length := range lengths {
			for _, delay := range delays {
				for _, count := range counts {
					told = append(told, plan.Plan{Start: start, Length: length, Delay: delay, Count: count})
				}
			}
		}
	}
	return told
}

// plans are such as may be: the chapter's one, those at all edges, and ordinary ones.
func plans() []plan.Plan {
	told := append(plansOf(starts, lengths, delays, counts), example)
	n := uint64(10)
	for range 300 {
		n = n*6364136223846793005 + 1442695040888963407 // numbers that look like drawn ones, and are the same each time
		told = append(told, plan.Plan{
			Start:  int64(n) >> 3,
			Length: int64(n>>24) + 1,
			Delay:  int(n>>40%16) + 1,
			Count:  int(n>>50%1024) + 1,
		})
	}
	return told
}

// plansBeyond are such as may not be, each for one part.
func plansBeyond() []plan.Plan {
	may := []int64{1, 10, longest}
	told := plansOf(startsBeyond, may, delays, counts)
	told = append(told, plansOf(starts, lengthsBeyond, delays, counts)...)
	told = append(told, plansOf(starts, may, delaysBeyond, counts)...)
	return append(told, plansOf(starts, may, delays, countsBeyond)...)
}

// plansFarBeyond are such as may not be for several parts.
func plansFarBeyond() []plan.Plan {
	told := plansOf(startsBeyond, lengthsBeyond, delaysBeyond, countsBeyond)
	told = append(told, plansOf([]int64{0}, []int64{1}, delaysBeyond, countsBeyond)...)
	told = append(told, plansOf([]int64{0}, lengthsBeyond, []int{1}, countsBeyond)...)
	told = append(told, plansOf([]int64{0}, lengthsBeyond, delaysBeyond, []int{1})...)
	told = append(told, plansOf(startsBeyond, []int64{1}, []int{1}, countsBeyond)...)
	told = append(told, plansOf(startsBeyond, []int64{1}, delaysBeyond, []int{1})...)
	told = append(told, plansOf(startsBeyond, lengthsBeyond, []int{1}, []int{1})...)
	return append(told, plan.Plan{})
}

// intervals are numbers that lie about the ends of a plan's intervals, and far from them.
func intervals(p plan.Plan) []int {
	return []int{
		math.MinInt, math.MinInt + 1, math.MinInt + 16, -1025, -16, -1, 0, 1, 2, 3,
		p.Delay - 1, p.Delay, p.Delay + 1, p.Count / 2,
		p.Count - 1, p.Count, p.Count + 1, p.Count + 2,
		p.Count + p.Delay - 1, p.Count + p.Delay, p.Count + p.Delay + 1,
		1 << 32, 1<<32 + 1, math.MaxInt - 16, math.MaxInt - 1, math.MaxInt,
	}
}

// begins tells when an interval begins, or would, if there were so many, by the library's numbers.
func begins(p plan.Plan, i int) *big.Int {
	n := new(big.Int).Mul(big.NewInt(int64(i)-1), big.NewInt(p.Length))
	return n.Add(n, big.NewInt(p.Start))
}

// moment tells the same as a number of 64 bits, which it must be.
func moment(t *testing.T, p plan.Plan, i int) int64 {
	t.Helper()
	n := begins(p, i)
	if !n.IsInt64() {
		t.Fatalf("%+v: interval %d begins at %s", p, i, n)
	}
	return n.Int64()
}

// at tells in which interval a moment is, by the library's numbers.
func at(p plan.Plan, t int64) (int, api.Errno) {
	m := big.NewInt(t)
	if m.Cmp(begins(p, 1)) < 0 {
		return 0, api.ErrWait
	}
	if m.Cmp(begins(p, p.Count+1)) >= 0 {
		return 0, api.ErrNone
	}
	span := m.Sub(m, big.NewInt(p.Start))
	return int(span.Div(span, big.NewInt(p.Length)).Int64()) + 1, api.OK
}

// within tells whether i is from 1 to last.
func within(i, last int) bool { return i >= 1 && i <= last }

// hold holds an answer with an error against what it must be.
func hold[T comparable](t *testing.T, p plan.Plan, call string, asked any, got T, e api.Errno, want T, wanted api.Errno) {
	t.Helper()
	if got != want || e != wanted {
		t.Fatalf("%+v: %s(%v): %v, %d, want %v, %d", p, call, asked, got, e, want, wanted)
	}
}

// P10.1

func TestMay(t *testing.T) {
	for _, p := range plans() {
		if !plan.May(p) {
			t.Errorf("%+v may be", p)
		}
	}
}

func TestMayNot(t *testing.T) {
	for _, p := range append(plansBeyond(), plansFarBeyond()...) {
		if plan.May(p) {
			t.Fatalf("%+v may not be", p)
		}
	}
}

// TestOfPlansThatMayNotBe asks all else of them: whatever it is, and whatever would be wrong about it too.
func TestOfPlansThatMayNotBe(t *testing.T) {
	moments := []int64{least, -edge, -1, 0, 1, 105, edge, greatest}
	asked := []int{math.MinInt, -1, 0, 1, 2, 3, 5, 6, 17, 1024, 1025, 1040, math.MaxInt - 1, math.MaxInt}
	for _, p := range append(plansBeyond(), plansFarBeyond()...) {
		for _, m := range append(moments, p.Start) {
			i, e := p.At(m)
			hold(t, p, "At", m, i, e, 0, api.ErrArg)
		}
		for _, i := range append(asked, p.Count, p.Delay) {
			b, e := p.Begins(i)
			hold(t, p, "Begins", i, b, e, 0, api.ErrArg)
			b, e = p.Told(i)
			hold(t, p, "Told", i, b, e, 0, api.ErrArg)
			if k := p.Tells(i); k != 0 {
				t.Fatalf("%+v: Tells(%d): %d, want 0", p, i, k)
			}
			if p.Safe(i, least) || p.Safe(i, 0) || p.Safe(i, greatest) {
				t.Fatalf("%+v: Safe of %d", p, i)
			}
		}
		b, e := p.End()
		hold(t, p, "End", "", b, e, 0, api.ErrArg)
		then, e := p.Then()
		hold(t, p, "Then", "", then, e, plan.Plan{}, api.ErrArg)
	}
}

func TestAt(t *testing.T) {
	type atCase struct {
		p    plan.Plan
		t    int64
		want int
		e    api.Errno
	}
	first := plan.Plan{Start: -edge, Length: longest, Delay: 16, Count: 1024}
	last := plan.Plan{Start: edge, Length: longest, Delay: 16, Count: 1024}
	short := plan.Plan{Start: -2, Length: 1, Delay: 1, Count: 4}
	ten := plan.Plan{Start: -15, Length: 10, Delay: 1, Count: 3}
	one := plan.Plan{Start: 0, Length: 1, Delay: 1, Count: 1}
	for _, c := range []atCase{
		{example, 119, 2, api.OK},
		{example, least, 0, api.ErrWait}, {example, 0, 0, api.ErrWait}, {example, 99, 0, api.ErrWait},
		{example, 100, 1, api.OK}, {example, 101, 1, api.OK}, {example, 109, 1, api.OK},
		{example, 110, 2, api.OK}, {example, 120, 3, api.OK}, {example, 139, 4, api.OK}, {example, 140, 5, api.OK},
		{example, 149, 5, api.OK}, {example, 150, 0, api.ErrNone}, {example, 151, 0, api.ErrNone}, {example, greatest, 0, api.ErrNone},

		{ten, -25, 0, api.ErrWait}, {ten, -16, 0, api.ErrWait}, {ten, -15, 1, api.OK}, {ten, -6, 1, api.OK},
		{ten, -5, 2, api.OK}, {ten, 0, 2, api.OK}, {ten, 4, 2, api.OK}, {ten, 5, 3, api.OK}, {ten, 14, 3, api.OK}, {ten, 15, 0, api.ErrNone},

		{short, -3, 0, api.ErrWait}, {short, -2, 1, api.OK}, {short, -1, 2, api.OK}, {short, 0, 3, api.OK}, {short, 1, 4, api.OK}, {short, 2, 0, api.ErrNone},
		{one, -1, 0, api.ErrWait}, {one, 0, 1, api.OK}, {one, 1, 0, api.ErrNone},

		{first, least, 0, api.ErrWait}, {first, -edge - 1, 0, api.ErrWait}, {first, -edge, 1, api.OK},
		{first, -edge + longest - 1, 1, api.OK}, {first, -edge + longest, 2, api.OK},
		{first, -edge + 1024*longest - 1, 1024, api.OK}, {first, -edge + 1024*longest, 0, api.ErrNone},
		{first, greatest - edge, 0, api.ErrNone}, {first, greatest - edge + 1, 0, api.ErrNone}, {first, greatest, 0, api.ErrNone},

		{last, least, 0, api.ErrWait}, {last, least + edge - 1, 0, api.ErrWait}, {last, least + edge, 0, api.ErrWait}, {last, edge - 1, 0, api.ErrWait},
		{last, edge, 1, api.OK}, {last, edge + 1023*longest - 1, 1023, api.OK}, {last, edge + 1023*longest, 1024, api.OK},
		{last, edge + 1024*longest - 1, 1024, api.OK}, {last, edge + 1024*longest, 0, api.ErrNone}, {last, greatest, 0, api.ErrNone},
	} {
		if i, e := c.p.At(c.t); i != c.want || e != c.e {
			t.Errorf("%+v: At(%d): %d, %d, want %d, %d", c.p, c.t, i, e, c.want, c.e)
		}
	}
}

// TestAtOfAll holds At against the library's numbers, about the ends of intervals and far from them.
func TestAtOfAll(t *testing.T) {
	far := []int64{least, least + 1, -2 * edge, -edge - 1, -edge, -1, 0, 1, edge, edge + 1, 2 * edge, greatest - 1, greatest}
	for _, p := range plans() {
		moments := far
		for _, i := range []int{1, 2, 3, p.Count / 2, p.Count - 1, p.Count, p.Count + 1, p.Count + 2, p.Count + p.Delay} {
			m := moment(t, p, i)
			moments = append(moments, m-1, m, m+1, m+p.Length/2)
		}
		for _, m := range moments {
			i, e := p.At(m)
			want, wanted := at(p, m)
			hold(t, p, "At", m, i, e, want, wanted)
		}
	}
}

func TestBegins(t *testing.T) {
	for i, want := range map[int]int64{1: 100, 2: 110, 3: 120, 4: 130, 5: 140, 6: 150} {
		b, e := example.Begins(i)
		hold(t, example, "Begins", i, b, e, want, api.OK)
	}
	for _, i := range []int{math.MinInt, -1, 0, 7, 8, math.MaxInt} {
		b, e := example.Begins(i)
		hold(t, example, "Begins", i, b, e, 0, api.ErrArg)
	}
}

func TestBeginsOfAll(t *testing.T) {
	for _, p := range plans() {
		for _, i := range intervals(p) {
			b, e := p.Begins(i)
			if within(i, p.Count+1) {
				hold(t, p, "Begins", i, b, e, moment(t, p, i), api.OK)
			} else {
				hold(t, p, "Begins", i, b, e, 0, api.ErrArg)
			}
		}
	}
}

func TestEnd(t *testing.T) {
	b, e := example.End()
	hold(t, example, "End", "", b, e, 150, api.OK)
	for _, p := range plans() {
		b, e := p.End()
		hold(t, p, "End", "", b, e, moment(t, p, p.Count+1), api.OK)
		same, f := p.Begins(p.Count + 1)
		hold(t, p, "End", "", b, e, same, f)
	}
}

// P10.2

func TestTells(t *testing.T) {
	for i, want := range map[int]int{math.MinInt: 0, -1: 0, 0: 0, 1: 0, 2: 0, 3: 1, 4: 2, 5: 3, 6: 4, 7: 5, 8: 0, 9: 0, math.MaxInt: 0} {
		if k := example.Tells(i); k != want {
			t.Errorf("Tells(%d): %d, want %d", i, k, want)
		}
	}
	late := plan.Plan{Length: 1, Delay: 16, Count: 2} // all its keys are told behind its last interval
	for i, want := range map[int]int{1: 0, 2: 0, 3: 0, 15: 0, 16: 0, 17: 1, 18: 2, 19: 0} {
		if k := late.Tells(i); k != want {
			t.Errorf("of Delay 16: Tells(%d): %d, want %d", i, k, want)
		}
	}
}

func TestTellsOfAll(t *testing.T) {
	for _, p := range plans() {
		for _, i := range intervals(p) {
			want := 0
			if within(i, p.Count+p.Delay) && i > p.Delay {
				want = i - p.Delay
			}
			if k := p.Tells(i); k != want {
				t.Fatalf("%+v: Tells(%d): %d, want %d", p, i, k, want)
			}
		}
	}
}

func TestTold(t *testing.T) {
	for i, want := range map[int]int64{1: 120, 2: 130, 3: 140, 4: 150, 5: 160} {
		b, e := example.Told(i)
		hold(t, example, "Told", i, b, e, want, api.OK)
	}
	for _, i := range []int{math.MinInt, -1, 0, 6, 7, 8, math.MaxInt} {
		b, e := example.Told(i)
		hold(t, example, "Told", i, b, e, 0, api.ErrArg)
	}
}

func TestToldOfAll(t *testing.T) {
	for _, p := range plans() {
		for _, i := range intervals(p) {
			b, e := p.Told(i)
			if within(i, p.Count) {
				hold(t, p, "Told", i, b, e, moment(t, p, i+p.Delay), api.OK)
			} else {
				hold(t, p, "Told", i, b, e, 0, api.ErrArg)
			}
		}
	}
}

func TestSafe(t *testing.T) {
	type safeCase struct {
		i      int
		latest int64
		want   bool
	}
	for _, c := range []safeCase{
		{2, 129, true}, {2, 130, false}, {2, 131, false},
		{1, least, true}, {1, 119, true}, {1, 120, false}, {1, greatest, false},
		{5, least, true}, {5, 150, true}, {5, 159, true}, {5, 160, false}, {5, 161, false}, // behind its end too
		{0, least, false}, {0, 0, false}, {6, least, false}, {6, 169, false}, {-1, least, false},
		{math.MinInt, least, false}, {math.MaxInt, least, false},
	} {
		if got := example.Safe(c.i, c.latest); got != c.want {
			t.Errorf("Safe(%d, %d): %t", c.i, c.latest, got)
		}
	}
}

func TestSafeOfAll(t *testing.T) {
	for _, p := range plans() {
		for _, i := range intervals(p) {
			moments := []int64{least, least + 1, -edge, 0, edge, greatest - 1, greatest, p.Start}
			own := within(i, p.Count)
			var told int64
			if own {
				told = moment(t, p, i+p.Delay)
				moments = append(moments, told-1, told, told+1)
			}
			for _, latest := range moments {
				if got := p.Safe(i, latest); got != (own && latest < told) {
					t.Fatalf("%+v: Safe(%d, %d): %t", p, i, latest, got)
				}
			}
		}
	}
}

// P10.3

func TestThen(t *testing.T) {
	then, e := example.Then()
	hold(t, example, "Then", "", then, e, plan.Plan{Start: 150, Length: 10, Delay: 2, Count: 5}, api.OK)
	if example != (plan.Plan{Start: 100, Length: 10, Delay: 2, Count: 5}) {
		t.Errorf("it didn't stay as it was: %+v", example)
	}
	for _, p := range plans() {
		then, e := p.Then()
		if end := moment(t, p, p.Count+1); end <= edge {
			hold(t, p, "Then", "", then, e, plan.Plan{Start: end, Length: p.Length, Delay: p.Delay, Count: p.Count}, api.OK)
		} else {
			hold(t, p, "Then", "", then, e, plan.Plan{}, api.ErrOver)
		}
	}
}

// TestThenAboutTheEdge takes plans that end at the last moment at which one may begin, and about it.
func TestThenAboutTheEdge(t *testing.T) {
	for _, p := range plansOf([]int64{0}, lengths, delays, counts) {
		for off := int64(-2); off <= 2; off++ {
			p.Start = edge - int64(p.Count)*p.Length + off
			if p.Start > edge {
				continue // there is none so short that ends there
			}
			then, e := p.Then()
			if off > 0 {
				hold(t, p, "Then", off, then, e, plan.Plan{}, api.ErrOver)
				continue
			}
			hold(t, p, "Then", off, then, e, plan.Plan{Start: edge + off, Length: p.Length, Delay: p.Delay, Count: p.Count}, api.OK)
			if !plan.May(then) {
				t.Fatalf("%+v may be", then)
			}
		}
	}
}

func TestThenInARow(t *testing.T) {
	p := plan.Plan{Start: -edge, Length: longest, Delay: 16, Count: 1024}
	for row := range 2048 { // each one is 2^50 long, and they begin from -2^60 to 2^60
		then, e := p.Then()
		hold(t, p, "Then", row, then, e, plan.Plan{Start: p.Start + 1024*longest, Length: longest, Delay: 16, Count: 1024}, api.OK)
		p = then
	}
	then, e := p.Then()
	if p.Start != edge || !plan.May(p) {
		t.Errorf("the last one: %+v", p)
	}
	hold(t, p, "Then", "the last one", then, e, plan.Plan{}, api.ErrOver)
}

// TestThenHasNoGap goes over where one plan ends and the next one begins.
func TestThenHasNoGap(t *testing.T) {
	for _, p := range plansOf([]int64{-edge, -7, 0, 100}, lengths, delays, counts) {
		then, e := p.Then()
		if e != api.OK {
			t.Fatalf("%+v: Then: %d", p, e)
		}
		i, e := p.At(then.Start - 1)
		hold(t, p, "At", "the last moment", i, e, p.Count, api.OK)
		i, e = p.At(then.Start)
		hold(t, p, "At", "the next one's first moment", i, e, 0, api.ErrNone)
		i, e = then.At(then.Start - 1)
		hold(t, then, "At", "the last moment ahead", i, e, 0, api.ErrWait)
		i, e = then.At(then.Start)
		hold(t, then, "At", "the first moment", i, e, 1, api.OK)
	}
}

// P10.4

// small are plans all of whose moments can be gone through.
func small() []plan.Plan {
	told := plansOf([]int64{-edge, -7, 0, 100, edge}, []int64{1, 2, 3, 10}, []int{1, 2, 5, 16}, []int{1, 2, 5, 20})
	return append(told, example)
}

// ends tells a plan's first moment, and the first one at which all its keys are told.
func ends(p plan.Plan) (int64, int64) {
	return p.Start, p.Start + int64(p.Count+p.Delay)*p.Length
}

// TestEachMomentIsInOneInterval asks all intervals of each moment, by when they begin.
func TestEachMomentIsInOneInterval(t *testing.T) {
	for _, p := range small() {
		first, last := ends(p)
		end, _ := p.End()
		for m := first - 2; m <= last; m++ {
			var in []int
			for i := 1; i <= p.Count; i++ {
				from, e := p.Begins(i)
				to, f := p.Begins(i + 1)
				if e != api.OK || f != api.OK {
					t.Fatalf("%+v: Begins of %d and behind it: %d, %d", p, i, e, f)
				}
				if from <= m && m < to {
					in = append(in, i)
				}
			}
			i, e := p.At(m)
			if is := first <= m && m < end; is != (e == api.OK) || is != (len(in) == 1) || is && in[0] != i {
				t.Fatalf("%+v: the moment %d is in %v, and At tells %d, %d", p, m, in, i, e)
			}
		}
	}
}

func TestIntervalsRiseAsMomentsDo(t *testing.T) {
	for _, p := range small() {
		first, _ := ends(p)
		end, _ := p.End()
		was := 0
		for m := first; m < end; m++ {
			i, e := p.At(m)
			if e != api.OK || i != was && i != was+1 || (m-first)%p.Length == 0 != (i == was+1) {
				t.Fatalf("%+v: At(%d): %d, %d, and %d ahead", p, m, i, e, was)
			}
			was = i
		}
		if was != p.Count {
			t.Fatalf("%+v: the last interval is %d", p, was)
		}
	}
}

func TestWhatIsSafeIsSafeEarlier(t *testing.T) {
	for _, p := range small() {
		first, last := ends(p)
		for i := -1; i <= p.Count+2; i++ {
			was := within(i, p.Count)
			for m := first - 2; m <= last; m++ {
				is := p.Safe(i, m)
				if is && !was {
					t.Fatalf("%+v: Safe(%d, %d), though not ahead of it", p, i, m)
				}
				was = is
			}
			if was {
				t.Fatalf("%+v: Safe(%d, %d), when all keys are told", p, i, last)
			}
		}
	}
}

// TestSafeIsWhatIsntTold goes through a plan's moments: what is safe then are just the keys that are told later.
func TestSafeIsWhatIsntTold(t *testing.T) {
	for _, p := range small() {
		first, _ := ends(p)
		end, _ := p.End()
		for m := first; m < end; m++ {
			now, _ := p.At(m)
			for i := 1; i <= p.Count; i++ {
				if p.Safe(i, m) != (i > p.Tells(now)) {
					t.Fatalf("%+v: Safe(%d, %d): %t, and in interval %d the key %d is told", p, i, m, p.Safe(i, m), now, p.Tells(now))
				}
			}
		}
	}
}

// TestEachKeyIsToldOnce goes through the intervals in which keys are told, and when those begin.
func TestEachKeyIsToldOnce(t *testing.T) {
	for _, p := range small() {
		next := 1
		for i := range p.Count + p.Delay + 3 {
			key := p.Tells(i)
			if key == 0 {
				continue
			}
			told, e := p.Told(key)
			hold(t, p, "Told", key, told, e, moment(t, p, i), api.OK)
			if key != next {
				t.Fatalf("%+v: Tells(%d): %d, want %d", p, i, key, next)
			}
			next++
		}
		if next != p.Count+1 {
			t.Fatalf("%+v: the last key that is told is %d", p, next-1)
		}
	}
}
