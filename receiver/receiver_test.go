package receiver_test

import (
	"crypto/hmac"
	"crypto/sha256"
	"encoding/binary"
	"math"
	"slices"
	"strconv"
	"strings"
	"testing"

	"timeball/api"
	"timeball/chain"
	"timeball/plan"
	"timeball/receiver"
	"timeball/sender"
)

const (
	least    = math.MinInt64
	greatest = math.MaxInt64
	edge     = 1 << 60
	longest  = 1 << 40
)

// example is the plan of most tests: the intervals 1 to 8, from 100 up to 180.
var example = planOf(100, 10, 2, 8)

// planOf makes a plan.
func planOf(start, length int64, delay, count int) plan.Plan {
	return plan.Plan{Start: start, Length: length, Delay: delay, Count: count}
}

// corners tells plans whose parts lie at the ends of what they may be.
func corners() []plan.Plan {
	return []plan.Plan{
		planOf(-edge, 1, 1, 1), planOf(-edge, 1, 16, 1024), planOf(-edge, longest, 1, 2), planOf(-edge, longest, 16, 1024),
		planOf(-1, 1, 2, 3), planOf(0, longest, 16, 16), planOf(edge-1, 2, 2, 17), planOf(edge, 1, 1, 1),
		planOf(edge, 1, 16, 1024), planOf(edge, longest, 1, 2), planOf(edge, longest, 16, 1024),
	}
}

// tag tells a tag of all its 32 bytes, by the library.
func tag(key []byte, text string) api.Key {
	h := hmac.New(sha256.New, key)
	h.Write([]byte(text))
	return api.Key(h.Sum(nil))
}

// keysOf tells a chain's keys, by the library.
func keysOf(seed api.Key, n int) []api.Key {
	keys := make([]api.Key, n+1)
	keys[n] = tag(seed[:], "chain")
	for i := n; i > 0; i-- {
		keys[i-1] = sha256.Sum256(keys[i][:])
	}
	return keys
}

// tagOf tells the tag that a packet must bear, by the library.
func tagOf(k api.Key, i int, text string) string {
	by := tag(k[:], "tag")
	whole := tag(by[:], string(binary.BigEndian.AppendUint32(nil, uint32(i)))+text)
	return string(whole[:16])
}

// seedOf tells a seed that looks like a drawn one.
func seedOf(n int) api.Key { return sha256.Sum256(binary.BigEndian.AppendUint64(nil, uint64(n))) }

// moment tells when an interval begins, also one behind the last one.
func moment(p plan.Plan, i int) int64 { return p.Start + int64(i-1)*p.Length }

// watched is a receiver, and what it must hold: a plain list of packets that wait, in the order in which they came, and
// one of things that are believed.
type watched struct {
	*receiver.Receiver
	plan              plan.Plan
	keys              []api.Key
	most, each, slots int
	at                int
	waits             []api.Packet
	believed          []api.Thing
	wrong, dropped    int
}

// watch makes a receiver that is watched, of the chain of a seed.
func watch(t *testing.T, seed api.Key, p plan.Plan, most, each, slots int) *watched {
	t.Helper()
	keys := keysOf(seed, p.Count)
	r, e := receiver.New(keys[0], p, most, each, slots)
	if r == nil || e != api.OK {
		t.Fatalf("%+v: New of %d, %d, %d: %v, %d", p, most, each, slots, r, e)
	}
	w := &watched{Receiver: r, plan: p, keys: keys, most: most, each: each, slots: slots}
	w.look(t, "New")
	return w
}

// packet tells the packet of an interval, as its sender sends it.
func (w *watched) packet(i int, text string) api.Packet {
	p := api.Packet{Interval: i, Text: text, Tag: tagOf(w.keys[i], i, text)}
	if told := i - w.plan.Delay; told >= 1 {
		p.Tells, p.Key = told, w.keys[told]
	}
	return p
}

// told tells when an interval's key is told.
func (w *watched) told(i int) int64 { return moment(w.plan, i+w.plan.Delay) }

// look holds all that changes nothing against what it must tell.
func (w *watched) look(t *testing.T, behind string) {
	t.Helper()
	if at, waits := w.At(), w.Waits(); at != w.at || waits != len(w.waits) {
		t.Fatalf("%+v, behind %s: At %d, Waits %d, want %d, %d", w.plan, behind, at, waits, w.at, len(w.waits))
	}
	if wrong, dropped := w.Counts(); wrong != w.wrong || dropped != w.dropped {
		t.Fatalf("%+v, behind %s: Counts %d, %d, want %d, %d", w.plan, behind, wrong, dropped, w.wrong, w.dropped)
	}
	of := map[int]int{}
	for _, th := range w.believed {
		of[th.Interval]++
	}
	for i := -2; i <= w.plan.Count+2; i++ {
		if got := w.Believed(i); got != of[i] {
			t.Fatalf("%+v, behind %s: Believed(%d) %d, want %d", w.plan, behind, i, got, of[i])
		}
	}
	for _, i := range []int{math.MinInt, math.MinInt + 1, w.plan.Count + w.plan.Delay, 1 << 32, 1<<32 + 1, math.MaxInt - 1, math.MaxInt} {
		if got := w.Believed(i); got != 0 {
			t.Fatalf("%+v, behind %s: Believed(%d) %d", w.plan, behind, i, got)
		}
	}
}

// believes moves what must wait for keys that are known to what must be believed, and tells what that is.
func (w *watched) believes(t *testing.T) []api.Thing {
	t.Helper()
	var told []api.Thing
	for i := 1; i <= w.at; i++ {
		for _, p := range w.waits {
			if p.Interval != i {
				continue
			}
			if p.Tag == tagOf(w.keys[i], i, p.Text) {
				told = append(told, api.Thing{Interval: i, Text: p.Text})
			} else {
				w.wrong++
			}
		}
	}
	for _, th := range told {
		if slices.Contains(w.believed, th) {
			t.Fatalf("%+v: %+v must be believed twice", w.plan, th)
		}
		w.believed = append(w.believed, th)
	}
	w.waits = slices.DeleteFunc(w.waits, func(p api.Packet) bool { return p.Interval <= w.at })
	return told
}

// wantLearn tells what Learn must answer, the errors in the order in which they are named, and moves what must be held.
func (w *watched) wantLearn(t *testing.T, k api.Key, i int) ([]api.Thing, api.Errno) {
	t.Helper()
	switch {
	case i < 1 || i > w.plan.Count:
		return nil, api.ErrArg
	case i <= w.at && k != w.keys[i]:
		return nil, api.ErrKey
	case i <= w.at:
		return nil, api.OK
	case i-w.at > w.most:
		return nil, api.ErrFar
	case k != w.keys[i]:
		return nil, api.ErrKey
	}
	w.at = i
	return w.believes(t), api.OK
}

// formed tells whether a packet is one of the plan.
func (w *watched) formed(p api.Packet) bool {
	if p.Interval < 1 || p.Interval > w.plan.Count || len(p.Tag) != 16 || len(p.Text) > 1000 {
		return false
	}
	tells := max(0, p.Interval-w.plan.Delay)
	return p.Tells == tells && (tells > 0 || p.Key == api.Key{})
}

// wantGot tells what Got must answer, the errors in the order in which they are named, and moves what must be held.
func (w *watched) wantGot(t *testing.T, p api.Packet, latest int64) ([]api.Thing, api.Errno) {
	t.Helper()
	if !w.formed(p) {
		return nil, api.ErrForm
	}
	var told []api.Thing
	if p.Tells > 0 {
		var e api.Errno
		if told, e = w.wantLearn(t, p.Key, p.Tells); e != api.OK {
			return nil, e
		}
	}
	if latest >= w.told(p.Interval) {
		return told, api.ErrLate
	}
	if slices.Contains(w.believed, api.Thing{Interval: p.Interval, Text: p.Text}) {
		return told, api.ErrTwice
	}
	of, intervals := 0, map[int]bool{}
	for _, q := range w.waits {
		if q.Interval == p.Interval && q.Text == p.Text && q.Tag == p.Tag {
			return told, api.ErrTwice
		}
		if q.Interval == p.Interval {
			of++
		}
		intervals[q.Interval] = true
	}
	if of == w.each || of == 0 && len(intervals) == w.slots {
		w.dropped++
		return told, api.ErrMany
	}
	w.waits = append(w.waits, p)
	return told, api.OK
}

// got takes a packet, holds the answer against what it must be, and tells it.
func (w *watched) got(t *testing.T, p api.Packet, latest int64) ([]api.Thing, api.Errno) {
	t.Helper()
	want, wanted := w.wantGot(t, p, latest)
	l, e := w.Got(p, latest)
	if !slices.Equal(l, want) || e != wanted {
		t.Fatalf("%+v: Got(%.90q, %d): %v, %d, want %v, %d", w.plan, packetText(p), latest, l, e, want, wanted)
	}
	w.look(t, "Got")
	return l, e
}

// packetText tells a packet shortly.
func packetText(p api.Packet) string {
	return strconv.Itoa(p.Interval) + " tells " + strconv.Itoa(p.Tells) + ": " + p.Text
}

// gets takes a packet, where the answer's error, and the texts of what is believed, must be those that the test names.
func (w *watched) gets(t *testing.T, p api.Packet, latest int64, e api.Errno, texts ...string) {
	t.Helper()
	l, told := w.got(t, p, latest)
	if told != e || !slices.Equal(textsOf(l), texts) {
		t.Fatalf("%+v: Got(%.90q, %d): %v, %d, and the test names %q, %d", w.plan, packetText(p), latest, l, told, texts, e)
	}
}

// intime takes a packet as it is sent, as soon as its interval begins.
func (w *watched) intime(t *testing.T, p api.Packet, e api.Errno, texts ...string) {
	t.Helper()
	w.gets(t, p, moment(w.plan, p.Interval), e, texts...)
}

// learns learns a key, holds the answer against what it must be, and against what the test names.
func (w *watched) learns(t *testing.T, k api.Key, i int, e api.Errno, texts ...string) {
	t.Helper()
	want, wanted := w.wantLearn(t, k, i)
	l, told := w.Learn(k, i)
	if !slices.Equal(l, want) || told != wanted {
		t.Fatalf("%+v: Learn(%x, %d): %v, %d, want %v, %d", w.plan, k, i, l, told, want, wanted)
	}
	if told != e || !slices.Equal(textsOf(l), texts) {
		t.Fatalf("%+v: Learn(%x, %d): %v, %d, and the test names %q, %d", w.plan, k, i, l, told, texts, e)
	}
	w.look(t, "Learn")
}

// textsOf tells the texts of things.
func textsOf(l []api.Thing) []string {
	var told []string
	for _, th := range l {
		told = append(told, th.Text)
	}
	return told
}

// wrongKeys tells keys that aren't the one of a chain, but may look like it.
func (w *watched) wrongKeys(i int) []api.Key {
	first, last := w.keys[i], w.keys[i]
	first[0] ^= 1
	last[31] ^= 128
	told := []api.Key{{}, first, last, seedOf(99), w.keys[i-1]}
	if i < w.plan.Count {
		told = append(told, w.keys[i+1])
	}
	return told
}

// numbered tells texts that begin alike.
func numbered(n int) string { return "text " + strconv.Itoa(n) }

// P13.1

// refused holds that there is no receiver of what may not be.
func refused(t *testing.T, p plan.Plan, most, each, slots int) {
	t.Helper()
	if r, e := receiver.New(seedOf(1), p, most, each, slots); r != nil || e != api.ErrArg {
		t.Errorf("%+v: New of %d, %d, %d: %v, %d, want none, %d", p, most, each, slots, r, e, api.ErrArg)
	}
}

func TestNewOfPlansThatMayNotBe(t *testing.T) {
	for _, p := range append(corners(), example) {
		wrong := p
		for _, wrong.Start = range []int64{least, least + 1, -2 * edge, -edge - 1, edge + 1, 2 * edge, greatest - 1, greatest} {
			refused(t, wrong, 4, 2, 2)
		}
		wrong = p
		for _, wrong.Length = range []int64{least, -longest, -1, 0, longest + 1, 2 * longest, greatest - 1, greatest} {
			refused(t, wrong, 4, 2, 2)
		}
		wrong = p
		for _, wrong.Delay = range []int{math.MinInt, -16, -1, 0, 17, 1 << 32, 1<<32 + 1, math.MaxInt - 1, math.MaxInt} {
			refused(t, wrong, 4, 2, 2)
		}
		wrong = p
		for _, wrong.Count = range []int{math.MinInt, -6, -1, 0, 1025, 1 << 32, 1<<32 + 1, math.MaxInt - 1, math.MaxInt} {
			refused(t, wrong, 4, 2, 2)
		}
	}
	refused(t, plan.Plan{}, 4, 2, 2)
	refused(t, plan.Plan{}, 0, 0, 0)
	refused(t, planOf(least, least, math.MinInt, math.MinInt), math.MinInt, math.MinInt, math.MinInt)
	refused(t, planOf(greatest, greatest, math.MaxInt, math.MaxInt), math.MaxInt, math.MaxInt, math.MaxInt)
}

func TestNewOfPlansThatMayBe(t *testing.T) {
	for _, p := range corners() {
		w := watch(t, seedOf(2), p, 4, 2, 2)
		w.gets(t, w.packet(1, "first"), p.Start, api.OK)
		w.gets(t, w.packet(1, "second"), w.told(1)-1, api.OK)
		w.gets(t, w.packet(1, "third"), w.told(1), api.ErrLate)
		w.learns(t, w.keys[1], 1, api.OK, "first", "second")
	}
}

func TestNewOfSizes(t *testing.T) {
	about := []int{math.MinInt, math.MinInt + 1, -64, -1, 0, 1, 2, 63, 64, 65, 128, 1 << 32, 1<<32 + 1, math.MaxInt - 1, math.MaxInt}
	may := func(n int) bool { return n >= 1 && n <= 64 }
	for _, most := range about {
		for _, each := range about {
			for _, slots := range about {
				if may(most) && may(each) && may(slots) {
					watch(t, seedOf(3), example, most, each, slots)
				} else {
					refused(t, example, most, each, slots)
				}
			}
		}
	}
	for n := 1; n <= 64; n++ {
		watch(t, seedOf(3), example, n, 65-n, n)
	}
}

func TestNewWalksJustSoFar(t *testing.T) {
	for _, most := range []int{1, 2, 3, 63, 64} {
		w := watch(t, seedOf(4), planOf(0, 10, 1, 1024), most, 1, 1)
		for w.at+most+1 <= 1024 {
			w.learns(t, w.keys[w.at+most+1], w.at+most+1, api.ErrFar)
			w.learns(t, w.keys[w.at+most], w.at+most, api.OK)
		}
		w.learns(t, w.keys[1024], 1024, api.OK)
	}
}

// TestNewHasJustSoMuchRoom lets packets wait whose keys are known, so that none of them lets others be believed.
func TestNewHasJustSoMuchRoom(t *testing.T) {
	for _, size := range [][2]int{{1, 1}, {1, 2}, {2, 1}, {3, 5}, {1, 63}, {1, 64}, {63, 2}, {64, 1}, {64, 3}, {63, 63}, {64, 64}} {
		w := watch(t, seedOf(5), planOf(0, 10, 1, 80), 64, size[0], size[1])
		w.learns(t, w.keys[64], 64, api.OK)
		var texts []string
		for i := 1; i <= w.slots; i++ {
			for n := range w.each {
				w.gets(t, w.packet(i, numbered(n)), 0, api.OK)
				texts = append(texts, numbered(n))
			}
			w.gets(t, w.packet(i, "more"), 0, api.ErrMany)
		}
		w.gets(t, w.packet(w.slots+1, "more"), 0, api.ErrMany)
		w.gets(t, w.packet(1, "more"), 0, api.ErrMany)
		w.learns(t, w.keys[65], 65, api.OK, texts...)
		w.gets(t, w.packet(w.slots+1, "more"), 0, api.OK)
	}
}

func TestNewOfAnotherKnownKey(t *testing.T) {
	keys := keysOf(seedOf(7), 8)
	for _, known := range []api.Key{{}, seedOf(6), keys[1], keysOf(seedOf(8), 8)[0]} {
		r, e := receiver.New(known, example, 64, 2, 2)
		if e != api.OK {
			t.Fatalf("New: %d", e)
		}
		for i, k := range keys[1:] {
			if l, e := r.Learn(k, i+1); len(l) != 0 || e != api.ErrKey || r.At() != 0 {
				t.Errorf("of %x: Learn of the key %d: %v, %d, At %d", known, i+1, l, e, r.At())
			}
		}
		if _, e := r.Learn(keys[8], 7); (e == api.OK) != (known == keys[1]) { // whose key 7 it is
			t.Errorf("of %x: Learn: %d", known, e)
		}
	}
}

// P13.2

func TestLearnOutOfRange(t *testing.T) {
	for _, most := range []int{1, 8, 64} {
		w := watch(t, seedOf(9), example, most, 2, 2)
		for at := 0; at <= 8; at++ {
			for _, i := range []int{math.MinInt, math.MinInt + 1, -1 << 32, -8, -1, 0, 9, 10, 73, 1024, 1 << 32, 1<<32 + 1, math.MaxInt - 1, math.MaxInt} {
				for _, k := range []api.Key{w.keys[0], w.keys[1], w.keys[at], w.keys[8], {}, seedOf(99)} {
					w.learns(t, k, i, api.ErrArg)
				}
			}
			if at < 8 {
				w.learns(t, w.keys[at+1], at+1, api.OK)
			}
		}
	}
}

// TestLearnInRange learns each key at first, in plans of which the last interval is just there, too.
func TestLearnInRange(t *testing.T) {
	for _, count := range []int{1, 2, 8, 64} {
		for i := 1; i <= count; i++ {
			w := watch(t, seedOf(10), planOf(0, 10, 16, count), 64, 2, 2)
			for _, k := range w.wrongKeys(i) {
				w.learns(t, k, i, api.ErrKey)
			}
			w.learns(t, w.keys[i], i, api.OK)
			w.learns(t, w.keys[i], i, api.OK)
			w.learns(t, w.keys[count], count, api.OK)
			w.learns(t, w.keys[i], i, api.OK)
		}
	}
}

func TestLearnOfKnownKeys(t *testing.T) {
	w := watch(t, seedOf(11), example, 64, 4, 4)
	w.intime(t, w.packet(7, "seven"), api.OK)
	for at := 5; at <= 8; at++ {
		var texts []string
		if at == 7 {
			texts = []string{"seven"}
		}
		w.learns(t, w.keys[at], at, api.OK, texts...)
		for i := 1; i <= at; i++ {
			w.learns(t, w.keys[i], i, api.OK)
			for _, k := range w.wrongKeys(i) {
				w.learns(t, k, i, api.ErrKey)
			}
		}
	}
}

// TestLearnOfKnownKeysBelievesNothing lets things wait whose keys are known: by a key that isn't, they are believed.
func TestLearnOfKnownKeysBelievesNothing(t *testing.T) {
	w := watch(t, seedOf(12), example, 64, 4, 4)
	w.learns(t, w.keys[6], 6, api.OK)
	for _, i := range []int{6, 5, 7, 1} {
		w.gets(t, w.packet(i, numbered(i)), w.told(i)-1, api.OK)
	}
	for i := 1; i <= 6; i++ {
		w.learns(t, w.keys[i], i, api.OK)
		w.learns(t, w.keys[i-1], i, api.ErrKey)
	}
	w.gets(t, w.packet(8, "late"), greatest, api.ErrLate) // its key is known, too
	w.learns(t, w.keys[7], 7, api.OK, numbered(1), numbered(5), numbered(6), numbered(7))
}

func TestLearnOfFarKeys(t *testing.T) {
	p := planOf(0, 10, 1, 300)
	for _, most := range []int{1, 2, 3, 63, 64} {
		w := watch(t, seedOf(13), p, most, 2, 2)
		for _, by := range []int{1, most, 1, most, 1} {
			for _, above := range []int{most + 1, most + 2, most + 64} {
				w.learns(t, w.keys[w.at+above], w.at+above, api.ErrFar)
				for _, k := range w.wrongKeys(w.at + above) {
					w.learns(t, k, w.at+above, api.ErrFar)
				}
			}
			for _, above := range []int{1, most} {
				for _, k := range w.wrongKeys(w.at + above) {
					w.learns(t, k, w.at+above, api.ErrKey)
				}
			}
			w.learns(t, w.keys[w.at+by], w.at+by, api.OK)
		}
		w.learns(t, w.keys[300], 301, api.ErrArg) // though it is too far, and wrong
		w.learns(t, w.keys[300], 300, api.ErrFar)
	}
}

func TestLearnIsOfTheErrorNamedFirst(t *testing.T) {
	w := watch(t, seedOf(14), example, 2, 2, 2)
	w.learns(t, w.keys[2], 2, api.OK)
	w.learns(t, seedOf(99), 0, api.ErrArg)
	w.learns(t, seedOf(99), -1, api.ErrArg)
	w.learns(t, seedOf(99), 9, api.ErrArg)
	w.learns(t, seedOf(99), 2, api.ErrKey)
	w.learns(t, seedOf(99), 3, api.ErrKey)
	w.learns(t, seedOf(99), 5, api.ErrFar)
	w.learns(t, seedOf(99), 8, api.ErrFar)
	w.learns(t, w.keys[8], 8, api.ErrFar)
	w.learns(t, w.keys[4], 4, api.OK)
}

// P13.3: what may be, and what not

// turned tells a packet that is changed in some of its parts.
func turned(p api.Packet, turn func(p *api.Packet)) api.Packet {
	turn(&p)
	return p
}

// malformed tells packets that are wrong in one part alone, or in no more than what hangs on it.
func (w *watched) malformed(p api.Packet) []api.Packet {
	var told []api.Packet
	add := func(turn func(p *api.Packet)) { told = append(told, turned(p, turn)) }
	for _, i := range []int{math.MinInt, math.MinInt + 1, -1, 0, w.plan.Count + 1, w.plan.Count + w.plan.Delay, w.plan.Count + w.plan.Delay + 1, p.Interval + 1<<32, math.MaxInt - 1, math.MaxInt} {
		add(func(p *api.Packet) { p.Interval = i })
		add(func(p *api.Packet) { p.Interval, p.Tells, p.Key = i, 0, api.Key{} })
		if tells := i - w.plan.Delay; i > 0 && tells > 0 { // as if the plan went on behind its last interval
			add(func(p *api.Packet) { p.Interval, p.Tells, p.Key = i, tells, w.keys[min(tells, w.plan.Count)] })
		}
	}
	for _, i := range []int{p.Interval - 1, p.Interval + 1, w.plan.Count} {
		if i != p.Interval && w.plan.Tells(i) != p.Tells {
			add(func(p *api.Packet) { p.Interval = i })
		}
	}
	for _, n := range []int{0, 1, 8, 15, 17, 32, 1000} {
		add(func(p *api.Packet) { p.Tag = strings.Repeat(p.Tag, 63)[:n] })
	}
	for _, n := range []int{1001, 1002, 1 << 20} {
		add(func(p *api.Packet) { p.Text = strings.Repeat("x", n) })
	}
	add(func(p *api.Packet) { p.Text = strings.Repeat("é", 501) }) // it is bytes that count
	for _, i := range []int{math.MinInt, -1, 0, 1, p.Tells - 1, p.Tells + 1, p.Interval, p.Interval + w.plan.Delay, p.Tells + 1<<32, math.MaxInt} {
		if i != p.Tells {
			add(func(p *api.Packet) { p.Tells = i })
			add(func(p *api.Packet) { p.Tells, p.Key = i, api.Key{} })
			add(func(p *api.Packet) { p.Tells, p.Key = i, w.keys[min(max(i, 0), w.plan.Count)] })
		}
	}
	if p.Tells == 0 {
		for _, k := range []api.Key{{1}, {31: 1}, {16: 128}, w.keys[0], w.keys[1], w.keys[p.Interval], seedOf(99)} {
			add(func(p *api.Packet) { p.Key = k })
		}
	}
	return told
}

func TestGotOfWrongForms(t *testing.T) {
	for _, p := range []plan.Plan{example, planOf(-5, 3, 1, 8), planOf(0, 10, 16, 8), planOf(edge, longest, 16, 40), planOf(0, 1, 1, 1), planOf(0, 1, 3, 1024)} {
		for _, i := range []int{1, 2, 3, p.Count} {
			if i > p.Count {
				continue
			}
			w := watch(t, seedOf(15), p, 64, 4, 4)
			for n := 64; n < i; n += 64 { // so that no key is too far
				w.learns(t, w.keys[n], n, api.OK)
			}
			for _, bad := range w.malformed(w.packet(i, "text")) {
				for _, latest := range []int64{least, moment(p, i), greatest} {
					w.gets(t, bad, latest, api.ErrForm)
				}
			}
			w.intime(t, w.packet(i, "text"), api.OK)
			for _, bad := range w.malformed(w.packet(i, "text")) { // while it waits, and its key is known
				w.gets(t, bad, moment(p, i), api.ErrForm)
			}
		}
	}
}

func TestGotOfTextsAndTags(t *testing.T) {
	w := watch(t, seedOf(16), planOf(0, 10, 16, 20), 64, 64, 64)
	var texts []string
	for _, text := range []string{"", "a", "b", "aa", "\x00", "\x00\x00", "\xff\xfe", "a\x00b", strings.Repeat("x", 999), strings.Repeat("x", 1000), strings.Repeat("é", 500), strings.Repeat("\x00", 1000)} {
		for i := 1; i <= 2; i++ {
			w.intime(t, w.packet(i, text), api.OK)
			w.intime(t, w.packet(i, text), api.ErrTwice)
		}
		texts = append(texts, text)
	}
	for _, tag := range []string{strings.Repeat("\x00", 16), strings.Repeat("\xff", 16), strings.Repeat("é", 8), strings.Repeat("t", 16)} {
		w.intime(t, turned(w.packet(2, "a"), func(p *api.Packet) { p.Tag = tag }), api.OK)
	}
	w.intime(t, w.packet(17, "z"), api.OK, texts...)
	w.intime(t, w.packet(18, "z"), api.OK, texts...)
	if w.wrong != 4 || w.Believed(1) != 12 || w.Believed(2) != 12 {
		t.Errorf("%d, %d, %d", w.wrong, w.Believed(1), w.Believed(2))
	}
}

// TestGotOfATagAndATextPartedElsewhere takes packets whose tags and texts are the same bytes, one behind the other.
func TestGotOfATagAndATextPartedElsewhere(t *testing.T) {
	w := watch(t, seedOf(17), example, 8, 4, 4)
	p := w.packet(1, "text")
	w.intime(t, p, api.OK)
	whole := p.Tag + p.Text
	for n := range len(whole) + 1 {
		if n != 16 {
			w.intime(t, turned(p, func(p *api.Packet) { p.Tag, p.Text = whole[:n], whole[n:] }), api.ErrForm)
		}
	}
	w.intime(t, p, api.ErrTwice)
}

func TestGotOfWrongKeys(t *testing.T) {
	for i := 3; i <= 8; i++ {
		w := watch(t, seedOf(18), example, 8, 4, 4)
		w.intime(t, w.packet(1, "one"), api.OK)
		p := w.packet(i, "x")
		wrong := func(e api.Errno) {
			t.Helper()
			for _, k := range w.wrongKeys(p.Tells) {
				for _, latest := range []int64{least, moment(w.plan, i), greatest} {
					w.gets(t, turned(p, func(p *api.Packet) { p.Key = k }), latest, e)
				}
			}
		}
		wrong(api.ErrKey) // where the key isn't known yet
		w.intime(t, p, api.OK, "one")
		wrong(api.ErrKey) // where it is known, and the thing waits
		w.learns(t, w.keys[8], 8, api.OK, "x")
		wrong(api.ErrKey) // where an elder key is known, and the thing is believed
		w.intime(t, p, api.ErrTwice)
	}
}

func TestGotOfFarKeys(t *testing.T) {
	p := planOf(0, 10, 2, 300)
	for _, most := range []int{1, 2, 5, 64} {
		w := watch(t, seedOf(19), p, most, 4, 4)
		for range 3 {
			at := w.at
			far := w.packet(at+most+3, "far")
			w.intime(t, far, api.ErrFar)
			w.gets(t, far, greatest, api.ErrFar)
			for _, k := range w.wrongKeys(far.Tells) {
				w.intime(t, turned(far, func(p *api.Packet) { p.Key = k }), api.ErrFar)
			}
			near := w.packet(at+most+2, "near")
			w.intime(t, turned(near, func(p *api.Packet) { p.Key[5]++ }), api.ErrKey)
			l, e := w.got(t, near, moment(p, near.Interval))
			if e != api.OK || w.At() != at+most {
				t.Fatalf("of %d: Got: %v, %d, At %d", most, l, e, w.At())
			}
			w.intime(t, far, api.OK, textsOf(w.will(far.Tells))...) // it is but one farther now
		}
	}
}

// will tells what must be believed if a key were learnt.
func (w *watched) will(at int) []api.Thing {
	var told []api.Thing
	for i := 1; i <= at; i++ {
		told = append(told, w.waiting(i)...)
	}
	return told
}

// waiting tells the things that wait of an interval.
func (w *watched) waiting(i int) []api.Thing {
	var told []api.Thing
	for _, p := range w.waits {
		if p.Interval == i {
			told = append(told, api.Thing{Interval: i, Text: p.Text})
		}
	}
	return told
}

// P13.3: when it came

// TestGotSafe takes packets at both sides of the moment from which their keys may be told, and at both ends of 64 bits.
func TestGotSafe(t *testing.T) {
	for _, p := range append(corners(), example, planOf(-1, 3, 1, 100)) {
		for _, i := range []int{1, 2, p.Delay, p.Delay + 1, p.Count - 1, p.Count} {
			if i < 1 || i > p.Count {
				continue
			}
			w := watch(t, seedOf(20), p, 64, 64, 4)
			for n := 64; n < i; n += 64 {
				w.learns(t, w.keys[n], n, api.OK)
			}
			told := w.told(i)
			for n, latest := range []int64{least, least + 1, p.Start - 1, p.Start, moment(p, i), moment(p, i+1) - 1, told - 1} {
				w.gets(t, w.packet(i, numbered(n)), latest, api.OK)
			}
			for _, latest := range []int64{told, told + 1, told + p.Length, greatest - 1, greatest} {
				w.gets(t, w.packet(i, "late"), latest, api.ErrLate)
				w.gets(t, w.packet(i, numbered(0)), latest, api.ErrLate) // though it waits
			}
			w.gets(t, w.packet(i, "late"), told-1, api.OK) // that it came late once is forgotten
		}
	}
}

func TestGotIsOfTheErrorNamedFirst(t *testing.T) {
	w := watch(t, seedOf(21), planOf(100, 10, 2, 20), 3, 1, 1)
	long := strings.Repeat("x", 1001)
	wrongKey := func(p *api.Packet) { p.Key[0]++ }
	form := func(p *api.Packet) { p.Text = long }
	w.intime(t, w.packet(2, "two"), api.OK)
	w.gets(t, w.packet(2, "two"), w.told(2), api.ErrLate)        // late, and twice
	w.gets(t, w.packet(2, "other"), w.told(2), api.ErrLate)      // late, and no room
	w.gets(t, w.packet(2, "two"), w.told(2)-1, api.ErrTwice)     // twice, and no room
	w.gets(t, w.packet(2, "other"), w.told(2)-1, api.ErrMany)    // no room
	w.gets(t, w.packet(1, "other"), w.told(1)-1, api.ErrMany)    // no room for another interval
	w.gets(t, turned(w.packet(2, "two"), form), 0, api.ErrForm)  // wrong, and no room
	w.gets(t, turned(w.packet(4, "x"), form), 0, api.ErrForm)    // wrong, and its key is right
	w.gets(t, turned(w.packet(9, "x"), form), 500, api.ErrForm)  // wrong, too far, and late
	w.gets(t, turned(w.packet(6, "x"), wrongKey), 0, api.ErrFar) // too far, and wrong
	w.gets(t, turned(w.packet(6, "x"), wrongKey), 500, api.ErrFar)
	w.gets(t, turned(w.packet(5, "x"), wrongKey), 500, api.ErrKey) // a wrong key, and late
	w.gets(t, turned(w.packet(5, "x"), wrongKey), 0, api.ErrKey)   // a wrong key, and no room
	w.gets(t, w.packet(6, "x"), 500, api.ErrFar)
	if w.Waits() != 1 || w.At() != 0 {
		t.Errorf("Waits %d, At %d", w.Waits(), w.At())
	}
	w.gets(t, w.packet(3, "x"), w.told(3)-1, api.ErrMany) // its key 1 is learnt, and lets none be believed
	w.gets(t, w.packet(4, "x"), w.told(4)-1, api.OK, "two")
	w.gets(t, w.packet(2, "two"), w.told(2), api.ErrLate)     // late, and believed
	w.gets(t, w.packet(2, "two"), w.told(2)-1, api.ErrTwice)  // believed, and no room
	w.gets(t, w.packet(2, "other"), w.told(2)-1, api.ErrMany) // no room
	w.gets(t, turned(w.packet(2, "two"), form), 0, api.ErrForm)
}

// P13.3: what was there

func TestTheSamePacketTwice(t *testing.T) {
	w := watch(t, seedOf(22), example, 8, 4, 4)
	one, three := w.packet(1, "one"), w.packet(3, "three")
	w.intime(t, one, api.OK)
	w.intime(t, one, api.ErrTwice)
	w.gets(t, one, least, api.ErrTwice)
	w.intime(t, three, api.OK, "one")
	w.intime(t, one, api.ErrTwice) // now it is believed
	w.intime(t, three, api.ErrTwice)
	w.gets(t, one, least, api.ErrTwice)
	w.learns(t, w.keys[8], 8, api.OK, "three")
	w.intime(t, one, api.ErrTwice)
	w.intime(t, three, api.ErrTwice)
	if w.Believed(1) != 1 || w.Believed(3) != 1 || w.Waits() != 0 {
		t.Errorf("%d, %d, %d", w.Believed(1), w.Believed(3), w.Waits())
	}
}

// TestTheSameTextWithAnotherTag lets both wait, and where one of them is believed, its text is refused by any tag.
func TestTheSameTextWithAnotherTag(t *testing.T) {
	for _, rightFirst := range []bool{true, false} {
		w := watch(t, seedOf(23), example, 8, 4, 4)
		right := w.packet(1, "one")
		forged := turned(right, func(p *api.Packet) { p.Tag = tagOf(w.keys[2], 1, "one") })
		other := turned(right, func(p *api.Packet) { p.Tag = strings.Repeat("t", 16) })
		row := []api.Packet{forged, other, right}
		if rightFirst {
			slices.Reverse(row)
		}
		for n, p := range row {
			w.intime(t, p, api.OK)
			for _, q := range row[:n+1] {
				w.intime(t, q, api.ErrTwice)
			}
		}
		w.intime(t, w.packet(3, "three"), api.OK, "one")
		if wrong, _ := w.Counts(); wrong != 2 || w.Believed(1) != 1 {
			t.Errorf("wrong %d, believed %d", wrong, w.Believed(1))
		}
		for _, p := range row {
			w.intime(t, p, api.ErrTwice)
		}
	}
}

func TestAnotherTextWithTheSameTag(t *testing.T) {
	w := watch(t, seedOf(24), example, 8, 4, 4)
	right := w.packet(1, "one")
	other := turned(right, func(p *api.Packet) { p.Text = "two" })
	none := turned(right, func(p *api.Packet) { p.Text = "" })
	for _, p := range []api.Packet{other, right, none} {
		w.intime(t, p, api.OK)
		w.intime(t, p, api.ErrTwice)
	}
	w.intime(t, w.packet(3, "three"), api.OK, "one")
	w.intime(t, right, api.ErrTwice)
	w.intime(t, other, api.OK) // as it was wrong, it isn't believed, nor does it wait any more
	w.intime(t, other, api.ErrTwice)
	w.intime(t, w.packet(1, "two"), api.OK)
	w.intime(t, w.packet(4, "four"), api.OK, "two")
	if wrong, _ := w.Counts(); wrong != 3 || w.Believed(1) != 2 {
		t.Errorf("wrong %d, believed %d", wrong, w.Believed(1))
	}
}

func TestTheSameTextInTwoIntervals(t *testing.T) {
	w := watch(t, seedOf(25), example, 8, 4, 4)
	for i := 1; i <= 2; i++ {
		w.intime(t, w.packet(i, "same"), api.OK)
		w.intime(t, w.packet(i, "same"), api.ErrTwice)
	}
	one := turned(w.packet(2, "same"), func(p *api.Packet) { p.Tag = w.packet(1, "same").Tag })
	w.intime(t, one, api.OK) // the tag of interval 1 waits in interval 2, too, but isn't right there
	w.intime(t, w.packet(3, "same"), api.OK, "same")
	w.intime(t, w.packet(4, "same"), api.OK, "same")
	for i := 1; i <= 4; i++ {
		w.intime(t, w.packet(i, "same"), api.ErrTwice)
	}
	w.learns(t, w.keys[8], 8, api.OK, "same", "same")
	for i := 1; i <= 8; i++ {
		want := 0
		if i <= 4 {
			want = 1
		}
		if got := w.Believed(i); got != want {
			t.Errorf("Believed(%d) %d", i, got)
		}
	}
	if wrong, _ := w.Counts(); wrong != 1 {
		t.Errorf("wrong %d", wrong)
	}
}

// P13.3: what finds room

func TestAsManyAsThereIsRoomFor(t *testing.T) {
	w := watch(t, seedOf(26), example, 8, 2, 2)
	for _, i := range []int{1, 2} {
		w.intime(t, w.packet(i, "a"), api.OK)
		w.intime(t, w.packet(i, "b"), api.OK)
		for n := range 3 {
			w.intime(t, w.packet(i, numbered(n)), api.ErrMany)
		}
	}
	w.gets(t, w.packet(3, "c"), w.told(3)-1, api.OK, "a", "b") // its key makes room for itself
	w.intime(t, w.packet(2, "c"), api.ErrMany)
	w.intime(t, w.packet(1, "c"), api.ErrMany)
	w.gets(t, w.packet(5, "d"), w.told(5)-1, api.OK, "a", "b", "c")
	w.intime(t, w.packet(1, "c"), api.OK) // what was dropped may come again
	w.intime(t, w.packet(1, "d"), api.OK)
	w.intime(t, w.packet(1, "e"), api.ErrMany)
	w.intime(t, w.packet(2, "c"), api.ErrMany)
	if _, dropped := w.Counts(); dropped != 10 {
		t.Errorf("dropped %d", dropped)
	}
	w.learns(t, w.keys[8], 8, api.OK, "c", "d", "d")
	w.intime(t, w.packet(2, "c"), api.OK)
}

// TestFiveThingsWhereFourHaveRoom is an example of the whole.
func TestFiveThingsWhereFourHaveRoom(t *testing.T) {
	w := watch(t, seedOf(27), example, 8, 4, 2)
	for _, text := range []string{"one", "two", "three", "four"} {
		w.intime(t, w.packet(1, text), api.OK)
	}
	w.intime(t, w.packet(1, "five"), api.ErrMany)
	w.intime(t, w.packet(3, "x"), api.OK, "one", "two", "three", "four")
}

// TestWrongThingsHaveRoom holds that what is wrong takes room till its key is told, and gives it back then.
func TestWrongThingsHaveRoom(t *testing.T) {
	w := watch(t, seedOf(28), example, 8, 2, 1)
	for n := range 2 {
		w.intime(t, turned(w.packet(1, numbered(n)), func(p *api.Packet) { p.Tag = strings.Repeat("t", 16) }), api.OK)
	}
	w.intime(t, w.packet(1, "right"), api.ErrMany)
	w.intime(t, w.packet(3, "x"), api.OK)
	if wrong, dropped := w.Counts(); wrong != 2 || dropped != 1 || w.Believed(1) != 0 {
		t.Errorf("wrong %d, dropped %d, believed %d", wrong, dropped, w.Believed(1))
	}
}

// P13.3: what is believed then

func TestExample(t *testing.T) {
	w := watch(t, seedOf(29), example, 8, 4, 4)
	w.intime(t, w.packet(1, "thing"), api.OK)
	if w.Waits() != 1 {
		t.Errorf("Waits %d", w.Waits())
	}
	l, e := w.got(t, w.packet(3, "next"), moment(example, 3))
	if len(l) != 1 || l[0] != (api.Thing{Interval: 1, Text: "thing"}) || e != api.OK {
		t.Errorf("%v, %d", l, e)
	}
	if w.Waits() != 1 || w.At() != 1 || w.Believed(1) != 1 || w.Believed(3) != 0 {
		t.Errorf("Waits %d, At %d", w.Waits(), w.At())
	}
}

// TestLatePacketsTellKeys takes packets that are late, but whose keys let others be believed.
func TestLatePacketsTellKeys(t *testing.T) {
	w := watch(t, seedOf(30), example, 8, 4, 4)
	w.intime(t, w.packet(1, "one"), api.OK)
	w.intime(t, w.packet(2, "two"), api.OK)
	w.gets(t, w.packet(3, "three"), w.told(3), api.ErrLate, "one")
	w.gets(t, w.packet(3, "three"), w.told(3), api.ErrLate)
	w.gets(t, w.packet(8, "eight"), greatest, api.ErrLate, "two")
	if w.At() != 6 || w.Waits() != 0 || w.Believed(3) != 0 {
		t.Errorf("At %d, Waits %d", w.At(), w.Waits())
	}
}

// TestDroppedPacketsTellKeys takes a packet that finds no room, but whose key is learnt: what waits there are things of
// later intervals, as a key that lets some be believed makes room.
func TestDroppedPacketsTellKeys(t *testing.T) {
	w := watch(t, seedOf(31), example, 2, 4, 1)
	w.intime(t, w.packet(2, "two"), api.OK)
	w.intime(t, w.packet(3, "three"), api.ErrMany)
	if w.At() != 1 {
		t.Errorf("At %d", w.At())
	}
	w.intime(t, w.packet(5, "five"), api.OK, "two") // it is 2 above the key 1, but 3 above the key 0
}

// TestTwiceTellsNothing takes packets that were there: their keys are known since.
func TestTwiceTellsNothing(t *testing.T) {
	w := watch(t, seedOf(32), example, 8, 4, 4)
	w.intime(t, w.packet(1, "one"), api.OK)
	w.intime(t, w.packet(4, "four"), api.OK, "one")
	w.intime(t, w.packet(2, "two"), api.OK) // its key is known, so nothing lets it be believed now
	w.intime(t, w.packet(4, "four"), api.ErrTwice)
	w.intime(t, w.packet(3, "three"), api.OK)
	w.intime(t, w.packet(5, "five"), api.OK, "two", "three")
}

// TestBelievedInOrder lets things come in no simple order, many times, as maps are gone through in no fixed one.
func TestBelievedInOrder(t *testing.T) {
	p := planOf(0, 10, 16, 40)
	for again := range 20 {
		w := watch(t, seedOf(33), p, 64, 4, 16)
		for n := range 64 {
			i := n*(2*again+1)%16 + 1
			w.intime(t, w.packet(i, numbered(63-n)), api.OK)
		}
		var told []api.Thing
		for _, tells := range []int{5, 6, 11, 16} {
			l, e := w.got(t, w.packet(tells+16, "x"), moment(p, tells+16))
			if e != api.OK {
				t.Fatalf("Got: %d", e)
			}
			told = append(told, l...)
		}
		if len(told) != 64 || !slices.IsSortedFunc(told, func(a, b api.Thing) int { return a.Interval - b.Interval }) {
			t.Fatalf("%v", told)
		}
		for n, th := range told {
			before := th.Text
			if n%4 > 0 {
				before = told[n-1].Text
			}
			if number(before) < number(th.Text) {
				t.Fatalf("%q ahead of %q", before, th.Text)
			}
		}
	}
}

// number tells which one a numbered text is.
func number(text string) int {
	n, _ := strconv.Atoi(strings.TrimPrefix(text, "text "))
	return n
}

func TestWrongTags(t *testing.T) {
	w := watch(t, seedOf(34), planOf(0, 10, 16, 40), 64, 64, 8)
	wrong := 0
	forge := func(i int, text, tag string) {
		t.Helper()
		w.intime(t, turned(w.packet(i, text), func(p *api.Packet) { p.Tag = tag }), api.OK)
		wrong++
	}
	for bit := range 128 {
		i := 1 + bit/60
		b := []byte(w.packet(i, "text").Tag)
		b[bit/8] ^= 1 << (bit % 8)
		forge(i, "text", string(b))
	}
	for i := 1; i <= 3; i++ {
		w.intime(t, w.packet(i, "text"), api.OK)
	}
	for _, i := range []int{4, 5} {
		forge(i, "text", tagOf(w.keys[i-1], i, "text"))
		forge(i, "text", tagOf(w.keys[i+1], i, "text"))
		forge(i, "text", tagOf(w.keys[i], i+1, "text"))
		forge(i, "text", tagOf(w.keys[i], i, "texts"))
		forge(i, "text", tagOf(w.keys[0], i, "text"))
		forge(i, "text", tagOf(api.Key{}, i, "text"))
		whole := tag(w.keys[i][:], "tag")
		forge(i, "text", string(whole[:16]))
	}
	w.learns(t, w.keys[8], 8, api.OK, "text", "text", "text")
	if got, dropped := w.Counts(); got != wrong || dropped != 0 || w.Waits() != 0 {
		t.Errorf("wrong %d, want %d, dropped %d, Waits %d", got, wrong, dropped, w.Waits())
	}
	if w.Believed(1) != 1 || w.Believed(2) != 1 || w.Believed(3) != 1 || w.Believed(4) != 0 || w.Believed(5) != 0 {
		t.Error("what is wrong is believed")
	}
}

// P13.5

// row tells the packets of a sender that sends two texts in each interval of a plan.
func row(t *testing.T, seed api.Key, p plan.Plan) []api.Packet {
	t.Helper()
	s, e := sender.New(seed, p)
	if e != api.OK {
		t.Fatalf("%+v: sender.New: %d", p, e)
	}
	var sent []api.Packet
	for i := 1; i <= p.Count; i++ {
		for n := range 2 {
			got, e := s.Send(moment(p, i)+int64(n), "of "+strconv.Itoa(i)+", "+strconv.Itoa(n))
			if e != api.OK {
				t.Fatalf("%+v: Send: %d", p, e)
			}
			sent = append(sent, got)
		}
	}
	return sent
}

// rows are plans of all kinds of delays.
func rows() []plan.Plan {
	return []plan.Plan{planOf(100, 10, 1, 30), planOf(-200, 7, 2, 30), planOf(0, longest, 16, 40), planOf(edge, 2, 16, 16), planOf(-edge, 2, 3, 1024)}
}

// TestEachBroadcastIsBelievedWhenItsKeyIsTold goes by senders' packets alone.
func TestEachBroadcastIsBelievedWhenItsKeyIsTold(t *testing.T) {
	for _, p := range rows() {
		sent := row(t, seedOf(35), p)
		known, _ := chain.Known(seedOf(35), p.Count)
		r, e := receiver.New(known, p, 1, 2, p.Delay+1)
		if e != api.OK {
			t.Fatalf("%+v: New: %d", p, e)
		}
		for n, packet := range sent {
			var want []api.Thing
			if first := n - 2*p.Delay; n%2 == 0 && first >= 0 {
				want = []api.Thing{{Interval: sent[first].Interval, Text: sent[first].Text}, {Interval: sent[first].Interval, Text: sent[first+1].Text}}
			}
			l, e := r.Got(packet, moment(p, packet.Interval)+int64(n%2))
			if !slices.Equal(l, want) || e != api.OK {
				t.Fatalf("%+v: Got of interval %d: %v, %d, want %v", p, packet.Interval, l, e, want)
			}
		}
		if wrong, dropped := r.Counts(); wrong != 0 || dropped != 0 || r.At() != p.Count-p.Delay || r.Waits() != 2*p.Delay {
			t.Errorf("%+v: wrong %d, dropped %d, At %d, Waits %d", p, wrong, dropped, r.At(), r.Waits())
		}
		for i := 1; i <= p.Count; i++ {
			if (r.Believed(i) == 2) != (i <= p.Count-p.Delay) {
				t.Fatalf("%+v: Believed(%d) %d", p, i, r.Believed(i))
			}
		}
	}
}

func TestRowsWithGaps(t *testing.T) {
	for _, p := range rows()[:4] {
		sent := row(t, seedOf(36), p)
		for gap := 1; gap <= 20; gap++ {
			for _, most := range []int{gap, gap + 1, 64} {
				w := watch(t, seedOf(36), p, max(most, gap), 2, p.Delay+1)
				for i := gap; i <= p.Count; i += gap {
					for n := range 2 {
						if _, e := w.got(t, sent[2*i-2+n], moment(p, i)); e != api.OK {
							t.Fatalf("%+v: gap %d, most %d: interval %d: %d", p, gap, most, i, e)
						}
					}
				}
			}
		}
	}
}

// TestGapsBeyondMost lets packets come from so far on that no key leads back, and then one that does.
func TestGapsBeyondMost(t *testing.T) {
	for _, p := range []plan.Plan{planOf(0, 10, 1, 200), planOf(0, 10, 2, 200), planOf(0, 10, 16, 200)} {
		for _, most := range []int{1, 2, 7, 64} {
			w := watch(t, seedOf(37), p, most, 2, 40)
			w.intime(t, w.packet(1, "first"), api.OK)
			for i := most + p.Delay + 1; i <= p.Count; i += 9 {
				w.intime(t, w.packet(i, "x"), api.ErrFar)
				w.gets(t, w.packet(i, "x"), greatest, api.ErrFar)
			}
			w.intime(t, w.packet(most+p.Delay, "y"), api.OK, "first")
			w.intime(t, w.packet(most+p.Delay+1, "x"), api.OK, textsOf(w.will(most+1))...)
		}
	}
}

// TestMissedPacketsLeaveTheOthers leaves out packets in all ways: what came is believed if a later one told its key, or
// one behind it.
func TestMissedPacketsLeaveTheOthers(t *testing.T) {
	for _, delay := range []int{1, 2, 3, 8} {
		p := planOf(0, 10, delay, 9)
		keys := keysOf(seedOf(38), 9)
		sent := row(t, seedOf(38), p)
		for ways := range 1 << 9 {
			r, _ := receiver.New(keys[0], p, 9, 2, 9)
			var told []api.Thing
			came, at := 0, 0
			for i := 1; i <= 9; i++ {
				if ways>>(i-1)&1 == 0 {
					continue
				}
				l, e := r.Got(sent[2*i-2], moment(p, i))
				if e != api.OK {
					t.Fatalf("delay %d, ways %b: interval %d: %d", delay, ways, i, e)
				}
				told = append(told, l...)
				came, at = came+1, max(i-delay, 0)
			}
			var want []api.Thing
			for i := 1; i <= at; i++ {
				if ways>>(i-1)&1 == 1 {
					want = append(want, api.Thing{Interval: i, Text: sent[2*i-2].Text})
				}
			}
			if !slices.Equal(told, want) || r.At() != at || r.Waits() != came-len(want) {
				t.Fatalf("delay %d, ways %b: %v, want %v, At %d, Waits %d", delay, ways, told, want, r.At(), r.Waits())
			}
		}
	}
}

// TestWhoMakesPacketsByKeysThatWereTold lets others send right tags, by keys that were told, and wrong ones, ahead of
// each packet of the sender: what is believed is what it sent alone.
func TestWhoMakesPacketsByKeysThatWereTold(t *testing.T) {
	for _, p := range []plan.Plan{planOf(100, 10, 1, 40), planOf(100, 10, 2, 40), planOf(100, 10, 16, 40)} {
		w := watch(t, seedOf(39), p, 3, 8, 20)
		for _, packet := range row(t, seedOf(39), p) {
			now := moment(p, packet.Interval)
			for i := 1; i <= packet.Tells; i++ { // all by their own keys, which are told since then
				w.gets(t, w.packet(i, "made"), now, api.ErrLate)
			}
			forged := turned(packet, func(p *api.Packet) { p.Tag = tagOf(p.Key, p.Interval, p.Text) })
			w.got(t, forged, now)
			w.got(t, turned(forged, func(p *api.Packet) { p.Text = "made" }), now)
			if _, e := w.got(t, packet, now); e != api.OK {
				t.Fatalf("%+v: interval %d: %d", p, packet.Interval, e)
			}
		}
		for _, th := range w.believed {
			if th.Text == "made" {
				t.Fatalf("%+v: %+v is believed", p, th)
			}
		}
		if len(w.believed) != 2*(p.Count-p.Delay) || w.wrong == 0 {
			t.Errorf("%+v: believed %d, wrong %d", p, len(w.believed), w.wrong)
		}
	}
}

// drawn makes what tells numbers below others, that look like drawn ones, and are the same each time.
func drawn(n uint64) func(below int) int {
	return func(below int) int {
		n = n*6364136223846793005 + 1442695040888963407
		return int(n >> 33 % uint64(below))
	}
}

// act moves a receiver by one act or another, mostly by a packet of an interval that is near.
func (w *watched) act(t *testing.T, draw func(below int) int) {
	t.Helper()
	if draw(10) == 0 {
		w.learnsDrawn(t, draw)
		return
	}
	i := min(max(w.at+draw(w.most+2*w.plan.Delay+3)-w.plan.Delay, 1), w.plan.Count)
	p := w.packet(i, numbered(draw(2*w.each)))
	switch draw(16) {
	case 0:
		p.Tag = strings.Repeat(string(rune('a'+draw(3))), 16)
	case 1:
		p.Tag = tagOf(w.keys[i-1], i, p.Text)
	case 2:
		p.Key[draw(32)] ^= 1 << draw(8)
	case 3:
		bad := w.malformed(p)
		p = bad[draw(len(bad))]
	}
	latest := w.told(i) - 1 - int64(draw(3))*w.plan.Length
	if draw(8) == 0 {
		latest += int64(draw(5)) * w.plan.Length
	}
	w.got(t, p, latest)
}

// learnsDrawn learns a key that is near, or another one as that.
func (w *watched) learnsDrawn(t *testing.T, draw func(below int) int) {
	t.Helper()
	i := w.at + draw(w.most+5) - 2
	k := w.keys[min(max(i, 0), w.plan.Count)]
	if draw(3) == 0 {
		k = w.keys[draw(len(w.keys))]
	}
	want, wanted := w.wantLearn(t, k, i)
	if l, e := w.Learn(k, i); !slices.Equal(l, want) || e != wanted {
		t.Fatalf("%+v: Learn(%x, %d): %v, %d, want %v, %d", w.plan, k, i, l, e, want, wanted)
	}
	w.look(t, "Learn")
}

func TestLongRowsOfActs(t *testing.T) {
	draw := drawn(40)
	believed, wrong, dropped := 0, 0, 0
	for range 150 {
		p := planOf(int64(draw(1000))-500, int64(draw(20)+1), draw(16)+1, draw(80)+1)
		w := watch(t, seedOf(draw(1000)), p, draw(8)+1, draw(4)+1, draw(12)+1)
		for range 150 {
			w.act(t, draw)
		}
		believed, wrong, dropped = believed+len(w.believed), wrong+w.wrong, dropped+w.dropped
	}
	if believed < 1000 || wrong < 100 || dropped < 100 {
		t.Errorf("believed %d, wrong %d, dropped %d: too few to tell much", believed, wrong, dropped)
	}
}

// R2 to R5

// TestNothingIsChangedBesideErrors lets one receiver do the same as another one, and err on the way.
func TestNothingIsChangedBesideErrors(t *testing.T) {
	p := planOf(100, 10, 2, 40)
	for gap := 1; gap <= 8; gap++ {
		errs, plain := watch(t, seedOf(41), p, 8, 2, 8), watch(t, seedOf(41), p, 8, 2, 8)
		for i := gap; i <= p.Count; i += gap {
			errs.err(t, i)
			l, e := errs.got(t, errs.packet(i, "x"), moment(p, i))
			want, wanted := plain.got(t, plain.packet(i, "x"), moment(p, i))
			if !slices.Equal(l, want) || e != wanted {
				t.Fatalf("gap %d, interval %d: %v, %d, want %v, %d", gap, i, l, e, want, wanted)
			}
		}
	}
}

// err lets all kinds of errors come that change nothing, by packets and keys that are near an interval.
func (w *watched) err(t *testing.T, i int) {
	t.Helper()
	right := w.packet(i, "x")
	for _, p := range w.malformed(right) {
		w.intime(t, p, api.ErrForm)
	}
	if right.Tells > 0 {
		w.intime(t, turned(right, func(p *api.Packet) { p.Key[1] ^= 4 }), api.ErrKey)
		w.learns(t, w.keys[right.Tells-1], right.Tells, api.ErrKey)
	}
	if far := w.at + w.most + 1; far+w.plan.Delay <= w.plan.Count {
		w.intime(t, w.packet(far+w.plan.Delay, "x"), api.ErrFar)
		w.learns(t, w.keys[far], far, api.ErrFar)
	}
	w.learns(t, w.keys[0], 0, api.ErrArg)
	w.learns(t, w.keys[w.plan.Count], w.plan.Count+1, api.ErrArg)
	if w.at > 0 {
		w.learns(t, seedOf(99), w.at, api.ErrKey)
		w.gets(t, w.packet(w.at, "late"), w.told(w.at), api.ErrLate)
	}
}

// scrawl writes a list over, and what room it has behind its end.
func scrawl(l []api.Thing) {
	l = l[:cap(l)]
	for n := range l {
		l[n] = api.Thing{Interval: 77, Text: "scrawl"}
	}
}

func TestListsWrittenOverChangeNothing(t *testing.T) {
	w := watch(t, seedOf(42), planOf(0, 10, 2, 40), 8, 3, 8)
	var kept [][]api.Thing
	var were [][]api.Thing
	for i := 1; i <= 36; i++ {
		for n := range 3 {
			l, _ := w.got(t, w.packet(i, numbered(n)), moment(w.plan, i))
			if i%2 == 0 {
				scrawl(l)
				w.look(t, "a list written over")
			} else {
				kept, were = append(kept, l), append(were, slices.Clone(l))
			}
		}
	}
	l, e := w.Learn(w.keys[40], 40)
	if _, wanted := w.wantLearn(t, w.keys[40], 40); len(l) != 6 || e != wanted {
		t.Fatalf("Learn: %v, %d", l, e)
	}
	scrawl(l)
	w.look(t, "a list written over")
	w.intime(t, w.packet(36, numbered(0)), api.ErrTwice)
	for n := range kept {
		if !slices.Equal(kept[n], were[n]) {
			t.Errorf("%v was %v", kept[n], were[n])
		}
	}
}

func TestTwoReceiversByTurns(t *testing.T) {
	p, q := planOf(0, 10, 2, 60), planOf(-7, 3, 5, 60)
	one, two, three := watch(t, seedOf(43), p, 4, 2, 3), watch(t, seedOf(44), q, 3, 3, 6), watch(t, seedOf(43), p, 4, 2, 3)
	draws := []func(below int) int{drawn(45), drawn(46), drawn(47)}
	for range 400 {
		for n, w := range []*watched{one, two, three} {
			w.act(t, draws[n])
			one.look(t, "another one's act")
			two.look(t, "another one's act")
			three.look(t, "another one's act")
		}
	}
}

// TestTheSameCallsAnswerTheSame moves two receivers in one way, many times, as maps are gone through in no fixed order.
func TestTheSameCallsAnswerTheSame(t *testing.T) {
	p := planOf(0, 10, 16, 60)
	for range 10 {
		one, two := watch(t, seedOf(48), p, 64, 4, 30), watch(t, seedOf(48), p, 64, 4, 30)
		draw, again := drawn(49), drawn(49)
		for range 60 {
			one.act(t, draw)
			two.act(t, again)
		}
		l, e := one.Learn(one.keys[60], 60)
		if m, f := two.Learn(two.keys[60], 60); !slices.Equal(l, m) || e != f || len(one.believed) != len(two.believed) {
			t.Fatalf("%v, %d, and %v, %d", l, e, m, f)
		}
	}
}
