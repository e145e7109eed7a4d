package buffer_test

import (
	"math"
	"slices"
	"strconv"
	"strings"
	"testing"

	"timeball/api"
	"timeball/buffer"
)

// thing is what waits: a text, of an interval.
type thing struct {
	interval int
	text     string
}

// watched is a buffer, and what it must hold: a plain list of things, in the order in which they came.
type watched struct {
	*buffer.Buffer
	each, slots int
	list        []thing
	dropped     int
}

// watch makes a buffer that is watched.
func watch(t *testing.T, each, slots int) *watched {
	t.Helper()
	b, e := buffer.New(each, slots)
	if b == nil || e != api.OK {
		t.Fatalf("New of %d, %d: %v, %d", each, slots, b, e)
	}
	w := &watched{Buffer: b, each: each, slots: slots}
	w.look(t, "New")
	return w
}

// of tells the texts of an interval that must lie there, in order.
func (w *watched) of(i int) []string {
	var texts []string
	for _, th := range w.list {
		if th.interval == i {
			texts = append(texts, th.text)
		}
	}
	return texts
}

// intervals tells those that must have some, rising.
func (w *watched) intervals() []int {
	var told []int
	for _, th := range w.list {
		if !slices.Contains(told, th.interval) {
			told = append(told, th.interval)
		}
	}
	slices.Sort(told)
	return told
}

// want tells what Put must answer, the errors in the order in which they are named.
func (w *watched) want(i int, text string) api.Errno {
	if i < 1 {
		return api.ErrArg
	}
	if slices.Contains(w.list, thing{i, text}) {
		return api.ErrTwice
	}
	if n := len(w.of(i)); n == w.each || n == 0 && len(w.intervals()) == w.slots {
		return api.ErrMany
	}
	return api.OK
}

// look holds all that changes nothing against what it must tell.
func (w *watched) look(t *testing.T, behind string) {
	t.Helper()
	intervals := w.intervals()
	if got := w.Intervals(); !slices.Equal(got, intervals) {
		t.Fatalf("of %d, %d, behind %s: Intervals %d, want %d", w.each, w.slots, behind, got, intervals)
	}
	if size, dropped := w.Size(), w.Dropped(); size != len(w.list) || dropped != w.dropped {
		t.Fatalf("of %d, %d, behind %s: Size %d, Dropped %d, want %d, %d", w.each, w.slots, behind, size, dropped, len(w.list), w.dropped)
	}
	if len(intervals) > w.slots || len(w.list) > w.each*w.slots {
		t.Fatalf("of %d, %d, behind %s: %d things of %d intervals", w.each, w.slots, behind, len(w.list), len(intervals))
	}
	for _, th := range w.list {
		w.has(t, th.interval, th.text)
		w.has(t, th.interval, th.text+"~")
		w.has(t, th.interval+1, th.text)
		w.has(t, th.interval-1, th.text)
	}
	for _, i := range []int{math.MinInt, -1, 0, 1, 77, math.MaxInt} {
		w.has(t, i, "")
		w.has(t, i, "nowhere")
	}
}

// has holds Has against what it must tell.
func (w *watched) has(t *testing.T, i int, text string) {
	t.Helper()
	if want := slices.Contains(w.list, thing{i, text}); w.Has(i, text) != want {
		t.Fatalf("of %d, %d: Has(%d, %.20q): %t", w.each, w.slots, i, text, !want)
	}
}

// put lets a thing wait, holds the answer against what it must be, and tells it.
func (w *watched) put(t *testing.T, i int, text string) api.Errno {
	t.Helper()
	want := w.want(i, text)
	switch want {
	case api.OK:
		w.list = append(w.list, thing{i, text})
	case api.ErrMany:
		w.dropped++
	}
	if e := w.Put(i, text); e != want {
		t.Fatalf("of %d, %d: Put(%d, %.20q): %d, want %d", w.each, w.slots, i, text, e, want)
	}
	w.look(t, "Put")
	return want
}

// puts lets a thing wait, where the answer must be one that the test names.
func (w *watched) puts(t *testing.T, i int, text string, e api.Errno) {
	t.Helper()
	if want := w.put(t, i, text); want != e {
		t.Fatalf("of %d, %d: Put(%d, %.20q): %d, and the test names %d", w.each, w.slots, i, text, want, e)
	}
}

// take takes an interval's things, and holds them against what they must be.
func (w *watched) take(t *testing.T, i int) {
	t.Helper()
	want := w.of(i)
	w.list = slices.DeleteFunc(w.list, func(th thing) bool { return th.interval == i })
	if got := w.Take(i); !slices.Equal(got, want) {
		t.Fatalf("of %d, %d: Take(%d): %.20q, want %.20q", w.each, w.slots, i, got, want)
	}
	w.look(t, "Take")
}

// drop lets those below an interval go, and holds how many these were against what it must be.
func (w *watched) drop(t *testing.T, below int) {
	t.Helper()
	had := len(w.list)
	w.list = slices.DeleteFunc(w.list, func(th thing) bool { return th.interval < below })
	if got := w.Drop(below); got != had-len(w.list) {
		t.Fatalf("of %d, %d: Drop(%d): %d, want %d", w.each, w.slots, below, got, had-len(w.list))
	}
	w.look(t, "Drop")
}

// takeAll takes what there is, so that its order is held against what it must be, too.
func (w *watched) takeAll(t *testing.T) {
	t.Helper()
	for _, i := range w.intervals() {
		w.take(t, i)
	}
	if w.Size() != 0 || len(w.Intervals()) != 0 {
		t.Fatalf("of %d, %d: all is taken, and there are %d of %d", w.each, w.slots, w.Size(), w.Intervals())
	}
}

// fill puts in what finds room, of intervals from first on.
func (w *watched) fill(t *testing.T, first int) {
	t.Helper()
	for i := range w.slots {
		for n := range w.each {
			w.puts(t, first+i, numbered(n), api.OK)
		}
	}
}

// numbered tells texts that begin alike.
func numbered(n int) string { return "text " + strconv.Itoa(n) }

// sizes are how much room a buffer may have, at the ends and between them.
var sizes = []int{1, 2, 3, 63, 64}

// ends are the intervals about 0, and those at both ends of int.
var ends = []int{math.MinInt, math.MinInt + 1, -2, -1, 0, 1, 2, math.MaxInt - 1, math.MaxInt}

// texts are unlike ones, some of which begin alike, or end so, or hold another one.
func texts() []string {
	long := strings.Repeat("time goes by ", 1<<12)
	return []string{"", " ", "a", "b", "aa", "ab", "ba", "a ", "A", "\x00", "\x00\x00", "a\x00", "\xff", "\xff\xfe", "é", "e\u0301", long, long + "a", long + "b", "a" + long, long[1:], long[:len(long)-1]}
}

// P11.1: New

func TestNewOfAllSizes(t *testing.T) {
	about := []int{math.MinInt, math.MinInt + 1, -64, -1, 0, 1, 2, 3, 63, 64, 65, 128, 1 << 32, 1<<32 + 1, math.MaxInt - 1, math.MaxInt}
	may := func(n int) bool { return n >= 1 && n <= 64 }
	for _, each := range about {
		for _, slots := range about {
			if may(each) && may(slots) {
				watch(t, each, slots)
				continue
			}
			if b, e := buffer.New(each, slots); b != nil || e != api.ErrArg {
				t.Errorf("New of %d, %d: %v, %d", each, slots, b, e)
			}
		}
	}
	for n := 1; n <= 64; n++ {
		watch(t, n, 64)
		watch(t, 64, n)
	}
}

func TestNewHasJustSoMuchRoom(t *testing.T) {
	for _, each := range sizes {
		for _, slots := range sizes {
			if each*slots > 200 {
				continue // to look behind each act would take long: TestTheGreatestBuffers fills those
			}
			w := watch(t, each, slots)
			w.fill(t, 10)
			for i := range slots {
				w.puts(t, 10+i, "more", api.ErrMany)
			}
			w.puts(t, 9, "more", api.ErrMany)
			w.puts(t, 10+slots, "more", api.ErrMany)
			w.takeAll(t)
		}
	}
}

func TestTheGreatestBuffers(t *testing.T) {
	for _, size := range [][2]int{{64, 64}, {63, 64}, {64, 63}, {64, 3}, {3, 64}} {
		each, slots := size[0], size[1]
		b, e := buffer.New(each, slots)
		if e != api.OK {
			t.Fatalf("New of %d, %d: %d", each, slots, e)
		}
		for n := range each {
			for i := slots; i >= 1; i-- {
				if e := b.Put(i, numbered(n)); e != api.OK {
					t.Fatalf("of %d, %d: Put(%d, %d): %d", each, slots, i, n, e)
				}
			}
		}
		for i := 1; i <= slots+1; i++ {
			if e := b.Put(i, "more"); e != api.ErrMany || b.Dropped() != i || b.Size() != each*slots || b.Has(i, "more") {
				t.Fatalf("of %d, %d: Put(%d, more): %d, Dropped %d, Size %d", each, slots, i, e, b.Dropped(), b.Size())
			}
		}
		if l := b.Intervals(); len(l) != slots || !slices.IsSorted(l) || l[0] != 1 {
			t.Fatalf("of %d, %d: Intervals %d", each, slots, l)
		}
		for i := 1; i <= slots; i++ {
			l := b.Take(i)
			for n := range each {
				if len(l) != each || l[n] != numbered(n) {
					t.Fatalf("of %d, %d: Take(%d): %q", each, slots, i, l)
				}
			}
		}
		if b.Size() != 0 || b.Dropped() != slots+1 {
			t.Fatalf("of %d, %d: all is taken: Size %d, Dropped %d", each, slots, b.Size(), b.Dropped())
		}
	}
}

// P11.1: Put

func TestExample(t *testing.T) {
	w := watch(t, 2, 1)
	w.puts(t, 5, "a", api.OK)
	w.puts(t, 5, "b", api.OK)
	w.puts(t, 5, "c", api.ErrMany)
	w.puts(t, 6, "d", api.ErrMany)
	if l := w.Take(5); len(l) != 2 || l[0] != "a" || l[1] != "b" || w.Dropped() != 2 {
		t.Errorf("Take(5): %q, Dropped %d", l, w.Dropped())
	}
}

func TestFiveThingsWhereFourHaveRoom(t *testing.T) {
	w := watch(t, 4, 2)
	for _, text := range []string{"one", "two", "three", "four"} {
		w.puts(t, 1, text, api.OK)
	}
	w.puts(t, 1, "five", api.ErrMany)
	w.puts(t, 2, "five", api.OK)
	w.takeAll(t)
}

func TestPutOfIntervals(t *testing.T) {
	for _, i := range ends {
		w := watch(t, 2, 3)
		e := api.ErrArg
		if i >= 1 {
			e = api.OK
		}
		w.puts(t, i, "a", e)
		w.puts(t, i, "", e)
		w.puts(t, 7, "a", api.OK)
		w.take(t, i)
	}
	w := watch(t, 2, 9)
	for _, i := range ends {
		w.put(t, i, "a")
		w.put(t, i, "b")
	}
	w.takeAll(t)
}

// TestPutBelowOne is refused as that wherever the other errors apply, too.
func TestPutBelowOne(t *testing.T) {
	w := watch(t, 1, 1)
	w.puts(t, 1, "a", api.OK)
	for _, i := range []int{math.MinInt, math.MinInt + 1, -1 << 32, -64, -1, 0} {
		w.puts(t, i, "a", api.ErrArg)
		w.puts(t, i, "b", api.ErrArg)
		w.puts(t, i, "", api.ErrArg)
	}
	if w.Dropped() != 0 {
		t.Errorf("Dropped %d", w.Dropped())
	}
	w.takeAll(t)
}

func TestPutOfUnlikeTexts(t *testing.T) {
	w := watch(t, 64, 3)
	for _, text := range texts() {
		for i := 1; i <= 3; i++ {
			w.puts(t, i, text, api.OK)
		}
	}
	for _, text := range texts() {
		for i := 3; i >= 1; i-- {
			w.puts(t, i, text, api.ErrTwice)
		}
	}
	for i := 1; i <= 3; i++ {
		w.take(t, i)
	}
}

func TestTheEmptyText(t *testing.T) {
	w := watch(t, 1, 2)
	w.has(t, 4, "")
	w.puts(t, 4, "", api.OK)
	w.puts(t, 4, "", api.ErrTwice)
	w.puts(t, 4, "a", api.ErrMany)
	if l := w.Intervals(); len(l) != 1 || l[0] != 4 || w.Size() != 1 {
		t.Errorf("Intervals %d, Size %d", l, w.Size())
	}
	w.puts(t, 5, "a", api.OK)
	w.puts(t, 5, "", api.ErrMany)
	if l := w.Take(4); len(l) != 1 || l[0] != "" {
		t.Errorf("Take(4): %q", l)
	}
}

func TestPutTwice(t *testing.T) {
	for _, text := range texts() {
		w := watch(t, 3, 3)
		w.puts(t, 5, text, api.OK)
		w.puts(t, 5, text, api.ErrTwice)
		w.puts(t, 5, "other", api.OK)
		w.puts(t, 5, text, api.ErrTwice)
		w.puts(t, 6, text, api.OK)
		w.puts(t, 4, text, api.OK)
		w.take(t, 5)
		w.puts(t, 5, text, api.OK)
		w.puts(t, 5, text, api.ErrTwice)
		w.drop(t, 6)
		w.puts(t, 5, text, api.OK)
		w.puts(t, 4, text, api.OK)
		w.puts(t, 6, text, api.ErrTwice)
		w.takeAll(t)
	}
}

// TestTwiceIsNamedAheadOfMany asks for each thing of an interval that is full, and where no interval has room.
func TestTwiceIsNamedAheadOfMany(t *testing.T) {
	for _, size := range [][2]int{{1, 1}, {1, 2}, {2, 1}, {2, 2}, {5, 3}, {1, 64}, {64, 1}} {
		w := watch(t, size[0], size[1])
		w.fill(t, 20)
		for i := range w.slots {
			for n := range w.each {
				w.puts(t, 20+i, numbered(n), api.ErrTwice)
			}
			w.puts(t, 20+i, "other", api.ErrMany)
		}
		w.puts(t, 19, numbered(0), api.ErrMany)
		if w.Dropped() != w.slots+1 {
			t.Errorf("of %d, %d: Dropped %d", w.each, w.slots, w.Dropped())
		}
		w.takeAll(t)
	}
}

func TestManyOfAFullInterval(t *testing.T) {
	for _, each := range []int{1, 2, 64} {
		for _, slots := range []int{1, 2, 64} {
			w := watch(t, each, slots)
			for n := range each {
				w.puts(t, 8, numbered(n), api.OK)
			}
			for again := range 70 {
				w.puts(t, 8, "more", api.ErrMany)
				if w.Dropped() != again+1 || w.Size() != each || w.Has(8, "more") {
					t.Fatalf("of %d, %d, again %d: Dropped %d, Size %d", each, slots, again, w.Dropped(), w.Size())
				}
			}
			if slots > 1 {
				w.puts(t, 9, "more", api.OK)
			}
			w.takeAll(t)
		}
	}
}

func TestManyOfANewInterval(t *testing.T) {
	for _, each := range []int{1, 2, 64} {
		for _, slots := range []int{1, 2, 64} {
			w := watch(t, each, slots)
			for i := range slots {
				w.puts(t, 100+i, "a", api.OK)
			}
			for again := range 10 {
				for n, i := range []int{1, 99, 100 + slots, math.MaxInt} {
					w.puts(t, i, "a", api.ErrMany)
					if w.Dropped() != 4*again+n+1 || w.Size() != slots || w.Has(i, "a") {
						t.Fatalf("of %d, %d, again %d: Dropped %d, Size %d", each, slots, again, w.Dropped(), w.Size())
					}
				}
			}
			if each > 1 {
				w.puts(t, 100, "b", api.OK) // one that has some may have more, whatever the others do
			}
			w.takeAll(t)
		}
	}
}

// TestWhatIsDroppedMayComeAgain puts in what found no room, once there is some.
func TestWhatIsDroppedMayComeAgain(t *testing.T) {
	w := watch(t, 1, 1)
	w.puts(t, 3, "a", api.OK)
	w.puts(t, 3, "b", api.ErrMany)
	w.puts(t, 4, "c", api.ErrMany)
	w.take(t, 3)
	w.puts(t, 3, "b", api.OK)
	w.take(t, 3)
	w.puts(t, 4, "c", api.OK)
	w.takeAll(t)
}

// P11.2

func TestTakeOfNone(t *testing.T) {
	w := watch(t, 2, 2)
	for range 2 {
		for _, i := range append([]int{4, 6, 7}, ends...) {
			w.take(t, i)
		}
		w.put(t, 5, "b")
		w.put(t, 5, "a")
		w.put(t, 8, "c")
	}
	w.take(t, 5)
	for range 3 {
		if l := w.Take(5); len(l) != 0 {
			t.Errorf("Take(5) again: %q", l)
		}
		w.look(t, "Take again")
	}
	w.take(t, 8)
	w.take(t, 8)
}

func TestTakeIsInOrder(t *testing.T) {
	for _, each := range sizes {
		w := watch(t, each, 2)
		for n := range each {
			w.puts(t, 2, numbered(n*37%each), api.OK) // 37 is prime to each, so that each one comes once, in no simple order
			w.puts(t, 1, numbered(each-n), api.OK)
		}
		w.take(t, 1)
		w.take(t, 2)
	}
}

func TestTakenWholeGivesItsSlotBack(t *testing.T) {
	for _, slots := range []int{1, 2, 3, 64} {
		w := watch(t, 2, slots)
		for i := range slots {
			w.puts(t, 10+i, "a", api.OK)
		}
		for again := range 5 {
			w.puts(t, 500+again, "a", api.ErrMany)
			w.take(t, w.intervals()[0])
			w.puts(t, 500+again, "a", api.OK)
			w.puts(t, 900, "a", api.ErrMany)
		}
		w.takeAll(t)
	}
}

func TestDroppedWholeGivesItsSlotBack(t *testing.T) {
	w := watch(t, 2, 3)
	for i := 1; i <= 3; i++ {
		w.puts(t, i, "a", api.OK)
		w.puts(t, i, "b", api.OK)
	}
	w.puts(t, 4, "a", api.ErrMany)
	w.drop(t, 3)
	w.puts(t, 4, "a", api.OK)
	w.puts(t, 1, "a", api.OK)
	w.puts(t, 5, "a", api.ErrMany)
	w.puts(t, 3, "c", api.ErrMany)
	w.takeAll(t)
}

// TestWhatStillHasSomeGivesNoSlotBack acts about intervals that stay, and asks for the slots that they have.
func TestWhatStillHasSomeGivesNoSlotBack(t *testing.T) {
	w := watch(t, 2, 2)
	w.puts(t, 5, "a", api.OK)
	w.puts(t, 7, "a", api.OK)
	for _, below := range []int{math.MinInt, 0, 4, 5} {
		w.drop(t, below)
		w.puts(t, 6, "a", api.ErrMany)
	}
	for _, i := range []int{math.MinInt, 0, 4, 6, 8, math.MaxInt} {
		w.take(t, i)
		w.puts(t, 6, "a", api.ErrMany)
	}
	w.puts(t, 5, "a", api.ErrTwice)
	w.puts(t, 6, "a", api.ErrMany)
	w.drop(t, 6) // the one at 7 stays
	w.puts(t, 6, "a", api.OK)
	w.puts(t, 5, "a", api.ErrMany)
	w.takeAll(t)
}

func TestTakeGivesAllItsRoomBack(t *testing.T) {
	w := watch(t, 3, 1)
	for range 10 {
		for n := range 3 {
			w.puts(t, 6, numbered(n), api.OK)
		}
		w.puts(t, 6, "more", api.ErrMany)
		w.take(t, 6)
	}
}

// TestDropBelow drops below all edges, each time of a new buffer.
func TestDropBelow(t *testing.T) {
	for _, below := range append([]int{3, 4, 5, 6, 7, 8, 9, 1 << 40}, ends...) {
		w := watch(t, 3, 4)
		w.puts(t, 7, "c", api.OK)
		w.puts(t, 4, "b", api.OK)
		w.puts(t, 7, "a", api.OK)
		w.puts(t, 5, "a", api.OK)
		w.puts(t, 4, "a", api.OK)
		w.puts(t, 7, "b", api.OK)
		w.puts(t, 7, "d", api.ErrMany)
		w.drop(t, below)
		w.drop(t, below)
		if w.Dropped() != 1 {
			t.Fatalf("Drop(%d): Dropped %d", below, w.Dropped())
		}
		w.takeAll(t)
	}
}

func TestDropAboutTheLastInterval(t *testing.T) {
	w := watch(t, 2, 3)
	w.puts(t, math.MaxInt, "b", api.OK)
	w.puts(t, math.MaxInt, "a", api.OK)
	w.puts(t, math.MaxInt-1, "a", api.OK)
	w.puts(t, 1, "a", api.OK)
	w.drop(t, 1)
	w.drop(t, 2)
	w.drop(t, math.MaxInt-1)
	w.drop(t, math.MaxInt)
	if w.Size() != 2 {
		t.Errorf("Size %d", w.Size())
	}
	w.take(t, math.MaxInt)
}

func TestDropOfNone(t *testing.T) {
	w := watch(t, 1, 1)
	for _, below := range ends {
		w.drop(t, below)
	}
	w.puts(t, 1, "a", api.OK)
	w.take(t, 1)
	for _, below := range ends {
		w.drop(t, below)
	}
}

func TestDropLeavesTheOthersInOrder(t *testing.T) {
	w := watch(t, 5, 6)
	for n := range 5 {
		for _, i := range []int{6, 2, 5, 1, 4, 3} {
			w.puts(t, i, numbered((n*3+i)%5), api.OK)
		}
	}
	w.drop(t, 3)
	w.take(t, 3)
	w.drop(t, 5)
	w.take(t, 6)
	w.take(t, 5)
}

func TestIntervalsRise(t *testing.T) {
	for _, came := range [][]int{{1, 2, 3, 4}, {4, 3, 2, 1}, {2, 4, 1, 3}, {math.MaxInt, 1, 1 << 40, 64}, {10, 9, 100, 11}} {
		w := watch(t, 2, 4)
		for _, i := range came {
			w.puts(t, i, "a", api.OK)
		}
		for _, i := range came {
			w.puts(t, i, "b", api.OK)
		}
		rising := slices.Sorted(slices.Values(came))
		if got := w.Intervals(); !slices.Equal(got, rising) {
			t.Errorf("of %d: Intervals %d", came, got)
		}
	}
	w := watch(t, 1, 64)
	for n := range 64 {
		w.puts(t, n*37%64+1, "a", api.OK)
	}
	for range 64 {
		w.take(t, w.list[0].interval)
	}
}

func TestDroppedRisesByNothingElse(t *testing.T) {
	w := watch(t, 2, 2)
	dropped := func(behind string) {
		t.Helper()
		if w.Dropped() != 1 {
			t.Errorf("behind %s: Dropped %d", behind, w.Dropped())
		}
	}
	w.fill(t, 3)
	w.puts(t, 5, "a", api.ErrMany)
	dropped("ErrMany")
	w.puts(t, 0, "a", api.ErrArg)
	w.puts(t, -1, numbered(0), api.ErrArg)
	dropped("ErrArg")
	w.puts(t, 3, numbered(0), api.ErrTwice)
	w.puts(t, 4, numbered(1), api.ErrTwice)
	dropped("ErrTwice")
	w.take(t, 3)
	w.take(t, 3)
	dropped("Take")
	w.drop(t, 4)
	w.drop(t, math.MaxInt)
	dropped("Drop")
	w.puts(t, 9, "a", api.OK)
	w.Has(9, "a")
	w.Has(9, "b")
	w.Intervals()
	w.Size()
	dropped("OK, Has, Intervals and Size")
}

// TestAskingChangesNothing asks again and again, and of what is there at all places of a line.
func TestAskingChangesNothing(t *testing.T) {
	for _, count := range []int{1, 2, 3, 4, 5} {
		w := watch(t, 5, 2)
		for n := range count {
			w.puts(t, 6, numbered(n), api.OK)
			w.puts(t, 2, numbered(count-n), api.OK)
		}
		for n := range count {
			for range n + 3 {
				w.has(t, 6, numbered(n))
				w.has(t, 7, numbered(n))
				w.Intervals()
				w.Size()
				w.Dropped()
			}
			w.puts(t, 6, numbered(n), api.ErrTwice)
		}
		w.takeAll(t)
	}
}

// P11.3

// drawn makes what tells numbers below others, that look like drawn ones, and are the same each time.
func drawn(n uint64) func(below int) int {
	return func(below int) int {
		n = n*6364136223846793005 + 1442695040888963407
		return int(n >> 33 % uint64(below))
	}
}

// act moves a buffer by one act or another, mostly by putting in what may find room.
func (w *watched) act(t *testing.T, draw func(below int) int) {
	t.Helper()
	i := draw(2*w.slots+2) - 1
	switch draw(12) {
	case 0, 1:
		w.take(t, i)
	case 2:
		w.drop(t, draw(i+3)-1)
	default:
		w.put(t, i, numbered(draw(2*w.each)))
	}
}

func TestLongRowsOfActs(t *testing.T) {
	for each := 1; each <= 6; each++ {
		for slots := 1; slots <= 6; slots++ {
			w, draw := watch(t, each, slots), drawn(uint64(10*each+slots))
			for range 1500 {
				w.act(t, draw)
			}
			if w.dropped == 0 {
				t.Errorf("of %d, %d: nothing was dropped", each, slots)
			}
			w.takeAll(t)
		}
	}
	w, draw := watch(t, 64, 5), drawn(9)
	for range 3000 {
		w.act(t, draw)
	}
	w.takeAll(t)
}

// TestWhatWasPutIsTakenOnce goes by what was put alone: what was taken or went by Drop is just what Put said lies there.
func TestWhatWasPutIsTakenOnce(t *testing.T) {
	b, _ := buffer.New(3, 4)
	draw := drawn(77)
	waits := map[int][]string{}
	put, taken, gone, refused := 0, 0, 0, 0
	for n := range 20000 {
		i := n/40 + draw(6) + 1
		switch e := b.Put(i, strconv.Itoa(n)); e { // each text comes once, so it is refused for want of room only
		case api.OK:
			waits[i] = append(waits[i], strconv.Itoa(n))
			put++
		case api.ErrMany:
			refused++
		default:
			t.Fatalf("Put(%d, %d): %d", i, n, e)
		}
		if n%7 == 0 {
			i := n/40 + draw(6) + 1
			l := b.Take(i)
			if !slices.Equal(l, waits[i]) {
				t.Fatalf("Take(%d): %q, want %q", i, l, waits[i])
			}
			taken += len(l)
			delete(waits, i)
		}
		if n%40 == 39 {
			gone += b.Drop(n/40 + 2)
			delete(waits, n/40+1)
		}
	}
	if put != taken+gone+b.Size() || refused != b.Dropped() || put+refused != 20000 || taken == 0 || gone == 0 || refused == 0 {
		t.Errorf("put %d, taken %d, gone %d, there %d, refused %d, dropped %d", put, taken, gone, b.Size(), refused, b.Dropped())
	}
}

// TestListsStayAsTheyWere keeps lists that were answered while the buffer goes on.
func TestListsStayAsTheyWere(t *testing.T) {
	w := watch(t, 3, 3)
	w.fill(t, 4)
	intervals, first := w.Intervals(), w.Take(4)
	w.list = slices.DeleteFunc(w.list, func(th thing) bool { return th.interval == 4 })
	for n := range 3 {
		w.puts(t, 4, "other "+strconv.Itoa(n), api.OK)
	}
	w.take(t, 4)
	w.drop(t, 6)
	w.puts(t, 1, "a", api.OK)
	w.takeAll(t)
	if !slices.Equal(intervals, []int{4, 5, 6}) || !slices.Equal(first, []string{numbered(0), numbered(1), numbered(2)}) {
		t.Errorf("Intervals %d, Take(4) %q", intervals, first)
	}
}

// scrawl writes a list over, and what room it has behind its end.
func scrawl[T any](l []T, what T) {
	l = l[:cap(l)]
	for n := range l {
		l[n] = what
	}
}

func TestListsWrittenOverChangeNothing(t *testing.T) {
	w := watch(t, 3, 4)
	w.fill(t, 4)
	for i := 4; i <= 7; i++ {
		scrawl(w.Intervals(), 99)
		w.look(t, "a list written over")
		scrawl(w.Take(i), "scrawl")
		w.list = slices.DeleteFunc(w.list, func(th thing) bool { return th.interval == i })
		scrawl(w.Intervals(), 1)
		w.look(t, "a list written over")
		if i == 5 {
			w.puts(t, 4, "a", api.OK)
			w.puts(t, 4, "b", api.OK)
		}
	}
	w.takeAll(t)
}

func TestTwoListsShareNothing(t *testing.T) {
	w := watch(t, 2, 2)
	w.fill(t, 1)
	one, two := w.Intervals(), w.Intervals()
	scrawl(one, 99)
	if !slices.Equal(two, []int{1, 2}) {
		t.Errorf("Intervals %d", two)
	}
	first, second := w.Take(1), w.Take(2)
	scrawl(first, "scrawl")
	if !slices.Equal(second, []string{numbered(0), numbered(1)}) {
		t.Errorf("Take(2) %q", second)
	}
}

func TestTwoBuffersByTurns(t *testing.T) {
	one, two := watch(t, 2, 3), watch(t, 2, 3)
	draw, other := drawn(5), drawn(6)
	for range 1000 {
		one.act(t, draw)
		two.look(t, "the other one's act")
		two.act(t, other)
		one.look(t, "the other one's act")
	}
	if one.dropped == 0 || two.dropped == 0 || one.dropped == two.dropped {
		t.Errorf("dropped %d, %d", one.dropped, two.dropped)
	}
	one.takeAll(t)
	two.takeAll(t)
}

// TestTheSameActsAnswerTheSame moves two buffers in one way, many times, as maps are gone through in no fixed order.
func TestTheSameActsAnswerTheSame(t *testing.T) {
	for range 10 {
		one, two := watch(t, 2, 30), watch(t, 2, 30)
		draw, again := drawn(8), drawn(8)
		for range 60 {
			one.act(t, draw)
			two.act(t, again)
			if !slices.Equal(one.Intervals(), two.Intervals()) || one.Size() != two.Size() || one.Dropped() != two.Dropped() {
				t.Fatalf("Intervals %d, %d", one.Intervals(), two.Intervals())
			}
		}
	}
}
