package sender_test

import (
	"crypto/hmac"
	"crypto/sha256"
	"encoding/binary"
	"math"
	"slices"
	"strings"
	"testing"

	"timeball/api"
	"timeball/chain"
	"timeball/mac"
	"timeball/octet"
	"timeball/plan"
	"timeball/sender"
)

const (
	least    = math.MinInt64
	greatest = math.MaxInt64
	edge     = 1 << 60
	longest  = 1 << 40
)

// example is the chapter's plan, with so many intervals that there is something to tell.
var example = planOf(100, 10, 2, 6)

// planOf makes a plan.
func planOf(start, length int64, delay, count int) plan.Plan {
	return plan.Plan{Start: start, Length: length, Delay: delay, Count: count}
}

// corners tells plans whose parts lie at the ends of what they may be.
func corners() []plan.Plan {
	return []plan.Plan{
		planOf(-edge, 1, 1, 1), planOf(-edge, 1, 16, 1024), planOf(-edge, longest, 1, 2), planOf(-edge, longest, 16, 1024),
		planOf(-edge+1, 2, 2, 17), planOf(-edge+1, longest-1, 15, 1023), planOf(-1, 1, 2, 3), planOf(0, longest, 16, 16),
		planOf(edge-1, 2, 2, 17), planOf(edge-1, longest-1, 15, 1023), planOf(edge, 1, 1, 1), planOf(edge, 1, 16, 1024),
		planOf(edge, longest, 1, 2), planOf(edge, longest, 16, 1024),
	}
}

// tag tells a tag of all its 32 bytes, by the library.
func tag(key []byte, text string) api.Key {
	h := hmac.New(sha256.New, key)
	h.Write([]byte(text))
	return api.Key(h.Sum(nil))
}

// keysOf tells a chain's keys, by the library.
func keysOf(seed api.Key, n int) []api.Key {
	keys := make([]api.Key, n+1)
	keys[n] = tag(seed[:], "chain")
	for i := n; i > 0; i-- {
		keys[i-1] = sha256.Sum256(keys[i][:])
	}
	return keys
}

// tagOf tells the tag that a packet must bear, by the library.
func tagOf(k api.Key, i int, text string) string {
	by := tag(k[:], "tag")
	whole := tag(by[:], string(binary.BigEndian.AppendUint32(nil, uint32(i)))+text)
	return string(whole[:16])
}

// moment tells when an interval begins, also the one behind the last one, where there is such a one.
func moment(p plan.Plan, i int) int64 { return p.Start + int64(i-1)*p.Length }

// watched is a sender, and what it must go by.
type watched struct {
	*sender.Sender
	plan plan.Plan
	keys []api.Key
	last int
}

// seedOf tells a seed that looks like a drawn one.
func seedOf(n int) api.Key { return sha256.Sum256(binary.BigEndian.AppendUint64(nil, uint64(n))) }

// watch makes a sender that is watched.
func watch(t *testing.T, seed api.Key, p plan.Plan) *watched {
	t.Helper()
	s, e := sender.New(seed, p)
	if s == nil || e != api.OK {
		t.Fatalf("%+v: New: %v, %d", p, s, e)
	}
	return with(t, s, seed, p)
}

// with watches a sender that is there.
func with(t *testing.T, s *sender.Sender, seed api.Key, p plan.Plan) *watched {
	t.Helper()
	w := &watched{Sender: s, plan: p, keys: keysOf(seed, p.Count)}
	w.look(t, "New")
	return w
}

// look holds all that changes nothing against what it must tell.
func (w *watched) look(t *testing.T, behind string) {
	t.Helper()
	if known := w.Known(); known != w.keys[0] {
		t.Fatalf("%+v, behind %s: Known %x, want %x", w.plan, behind, known, w.keys[0])
	}
	if last := w.Last(); last != w.last {
		t.Fatalf("%+v, behind %s: Last %d, want %d", w.plan, behind, last, w.last)
	}
}

// want tells what Send must answer, the errors in the order in which they are named.
func (w *watched) want(now int64, text string) (api.Packet, api.Errno) {
	i, e := w.plan.At(now)
	if e != api.OK {
		return api.Packet{}, e
	}
	if i < w.last {
		return api.Packet{}, api.ErrLate
	}
	if len(text) > 1000 {
		return api.Packet{}, api.ErrSize
	}
	p := api.Packet{Interval: i, Text: text, Tag: tagOf(w.keys[i], i, text)}
	if told := i - w.plan.Delay; told >= 1 {
		p.Tells, p.Key = told, w.keys[told]
	}
	return p, api.OK
}

// send sends, holds the answer against what it must be, and tells it.
func (w *watched) send(t *testing.T, now int64, text string) (api.Packet, api.Errno) {
	t.Helper()
	want, wanted := w.want(now, text)
	if wanted == api.OK {
		w.last = want.Interval
	}
	got, e := w.Send(now, text)
	if got != want || e != wanted {
		t.Fatalf("%+v: Send(%d, %.20q): %+v, %d, want %+v, %d", w.plan, now, text, got, e, want, wanted)
	}
	w.look(t, "Send")
	return got, e
}

// sends sends, where the answer's interval and error must be those that the test names.
func (w *watched) sends(t *testing.T, now int64, text string, i int, e api.Errno) {
	t.Helper()
	if got, told := w.send(t, now, text); got.Interval != i || told != e {
		t.Fatalf("%+v: Send(%d, %.20q): interval %d, %d, and the test names %d, %d", w.plan, now, text, got.Interval, told, i, e)
	}
}

// drawn tells a number that looks like a drawn one, and is the same each time.
func drawn(n uint64) uint64 { return n*6364136223846793005 + 1442695040888963407 }

// P12.1

// refused holds that there is no sender of a plan that may not be.
func refused(t *testing.T, p plan.Plan) {
	t.Helper()
	if s, e := sender.New(seedOf(1), p); s != nil || e != api.ErrArg {
		t.Errorf("%+v: New: %v, %d, want none, %d", p, s, e, api.ErrArg)
	}
}

func TestNewOfPlansThatMayNotBe(t *testing.T) {
	for _, p := range append(corners(), example, plan.Plan{}) {
		wrong := p
		for _, wrong.Start = range []int64{least, least + 1, -2 * edge, -edge - 1, edge + 1, 2 * edge, greatest - 1, greatest} {
			refused(t, wrong)
		}
		wrong = p
		for _, wrong.Length = range []int64{least, -longest, -1, 0, longest + 1, 2 * longest, greatest - 1, greatest} {
			refused(t, wrong)
		}
		wrong = p
		for _, wrong.Delay = range []int{math.MinInt, -16, -1, 0, 17, 1 << 32, 1<<32 + 1, math.MaxInt - 1, math.MaxInt} {
			refused(t, wrong)
		}
		wrong = p
		for _, wrong.Count = range []int{math.MinInt, -6, -1, 0, 1025, 1 << 32, 1<<32 + 1, math.MaxInt - 1, math.MaxInt} {
			refused(t, wrong)
		}
	}
	refused(t, plan.Plan{})
	refused(t, planOf(least, least, math.MinInt, math.MinInt))
	refused(t, planOf(greatest, greatest, math.MaxInt, math.MaxInt))
}

func TestNewOfPlansThatMayBe(t *testing.T) {
	for _, p := range corners() {
		w := watch(t, seedOf(2), p)
		w.sends(t, p.Start, "first", 1, api.OK)
		w.sends(t, moment(p, p.Count+1)-1, "last", p.Count, api.OK)
	}
}

func TestNewOfSeeds(t *testing.T) {
	whole := api.Key(slices.Repeat([]byte{255}, 32))
	for _, seed := range []api.Key{{}, {5}, {31: 5}, whole, seedOf(0), seedOf(1)} {
		w := watch(t, seed, example)
		known, e := chain.Known(seed, example.Count)
		if w.Known() != known || e != api.OK {
			t.Errorf("%x: Known %x, want %x", seed, w.Known(), known)
		}
		w.sends(t, 125, "x", 3, api.OK)
	}
}

func TestTag(t *testing.T) {
	texts := []string{"", "a", "text", "\x00", "\x00\x00\x00\x01", "\xff\xfe", "naïve time", strings.Repeat("x", 55), strings.Repeat("x", 60), strings.Repeat("x", 64), strings.Repeat("y", 999), strings.Repeat("y", 1000), strings.Repeat("y", 1001), strings.Repeat("z", 10000)}
	for _, i := range []int{math.MinInt, math.MinInt + 1, -1 << 32, -1, 0, 1, 2, 255, 256, 1024, 65536, 1<<31 - 1, 1 << 31, 1<<32 - 1, 1 << 32, 1<<32 + 1, math.MaxInt - 1, math.MaxInt} {
		for _, text := range texts {
			for _, k := range []api.Key{{}, {1}, seedOf(3)} {
				want := tagOf(k, i, text)
				if got := sender.Tag(k, i, text); got != want {
					t.Fatalf("Tag(%x, %d, %.20q): %x, want %x", k, i, text, got, want)
				}
				p := api.Packet{Interval: i, Text: text, Tag: want}
				if !sender.Right(k, p) {
					t.Fatalf("Right(%x, %d, %.20q): false", k, i, text)
				}
			}
		}
	}
}

func TestTagByTheOtherLayers(t *testing.T) {
	for i := 1; i <= example.Count; i++ {
		k, _ := chain.Key(seedOf(4), example.Count, i)
		by := chain.Tagger(k)
		want := mac.Short(string(by[:]), octet.Put(uint64(i), 4)+"text", api.TagSize)
		if got := sender.Tag(k, i, "text"); got != want || len(got) != 16 {
			t.Errorf("interval %d: %x, want %x", i, got, want)
		}
	}
}

// TestTagOfFourBytes takes intervals whose lowest 4 bytes are the same as one.
func TestTagOfFourBytes(t *testing.T) {
	k := seedOf(5)
	for _, same := range [][2]int{{-1, 1<<32 - 1}, {0, 1 << 32}, {1, 1<<32 + 1}, {math.MinInt, 0}, {math.MaxInt, -1}} {
		if sender.Tag(k, same[0], "x") != sender.Tag(k, same[1], "x") {
			t.Errorf("%d and %d have two tags", same[0], same[1])
		}
	}
	if sender.Tag(k, 1, "x") == sender.Tag(k, 2, "x") || sender.Tag(k, 1, "x") == sender.Tag(k, 1<<31+1, "x") {
		t.Error("two intervals have one tag")
	}
}

// packet is one that is right by seedOf(6).
func packet() api.Packet {
	return api.Packet{Interval: 3, Text: "some text", Tag: tagOf(seedOf(6), 3, "some text"), Tells: 1, Key: seedOf(7)}
}

// flip tells a text with one bit of it changed.
func flip(s string, bit int) string {
	b := []byte(s)
	b[bit/8] ^= 1 << (bit % 8)
	return string(b)
}

// wrong holds that a packet isn't right.
func wrong(t *testing.T, k api.Key, p api.Packet, why string) {
	t.Helper()
	if sender.Right(k, p) {
		t.Errorf("right in spite of %s: %+v", why, p)
	}
}

func TestRight(t *testing.T) {
	if !sender.Right(seedOf(6), packet()) {
		t.Error("a right packet is wrong")
	}
	if p := (api.Packet{Tag: tagOf(api.Key{}, 0, "")}); !sender.Right(api.Key{}, p) {
		t.Error("one of interval 0, of no text, by a key of bytes 0 is wrong")
	}
	wrong(t, api.Key{}, api.Packet{}, "having no tag")
	told := packet()
	for _, told.Tells = range []int{math.MinInt, -1, 0, 2, math.MaxInt} { // what it tells is no part of what is tagged
		told.Key[told.Tells&31]++
		if !sender.Right(seedOf(6), told) {
			t.Errorf("%d, %x: a right packet is wrong", told.Tells, told.Key)
		}
	}
}

func TestRightOfOtherKeys(t *testing.T) {
	for bit := range 256 {
		wrong(t, api.Key([]byte(flip(string(keyBytes(6)), bit))), packet(), "another key")
	}
	k := seedOf(6)
	wrong(t, chain.Tagger(k), packet(), "the tagger as key")
	wrong(t, sha256.Sum256(k[:]), packet(), "the key ahead")
	wrong(t, api.Key{}, packet(), "no key")
}

// keyBytes tells a seed's bytes.
func keyBytes(n int) []byte {
	k := seedOf(n)
	return k[:]
}

func TestRightOfOtherPackets(t *testing.T) {
	for bit := range 128 {
		p := packet()
		p.Tag = flip(p.Tag, bit)
		wrong(t, seedOf(6), p, "another tag")
	}
	for bit := range 8 * len(packet().Text) {
		p := packet()
		p.Text = flip(p.Text, bit)
		wrong(t, seedOf(6), p, "another text")
	}
	for bit := range 32 {
		p := packet()
		p.Interval ^= 1 << bit
		wrong(t, seedOf(6), p, "another interval")
	}
	for _, text := range []string{"", "some tex", "some text\x00", "\x00some text", "some textsome text"} {
		p := packet()
		p.Text = text
		wrong(t, seedOf(6), p, "another text")
	}
	for _, p := range []api.Packet{{Interval: 3}, {Text: "some text"}, {}} {
		wrong(t, seedOf(6), p, "having no tag")
	}
}

func TestRightOfTagsOfOtherLengths(t *testing.T) {
	by := chain.Tagger(seedOf(6))
	whole := tag(by[:], "\x00\x00\x00\x03some text")
	for n := range 33 {
		p := packet()
		p.Tag = string(whole[:n])
		if right := sender.Right(seedOf(6), p); right != (n == 16) {
			t.Errorf("a tag of %d bytes: %t", n, right)
		}
	}
	for _, more := range []string{"\x00", "x", packet().Tag, strings.Repeat("\x00", 100000)} {
		p := packet()
		p.Tag += more
		wrong(t, seedOf(6), p, "a longer tag")
		p.Tag = more + packet().Tag
		wrong(t, seedOf(6), p, "a longer tag")
	}
}

// P12.2

func TestExample(t *testing.T) {
	w := watch(t, api.Key{5}, example)
	p, e := w.send(t, 120, "noon")
	if p.Tells != 1 || p.Interval != 3 || e != api.OK {
		t.Errorf("%+v, %d", p, e)
	}
	if k, _ := chain.Key(api.Key{5}, 6, 1); p.Key != k {
		t.Errorf("%x, want %x", p.Key, k)
	}
}

func TestSendMoments(t *testing.T) {
	w := watch(t, seedOf(8), example)
	for _, now := range []int64{least, least + 1, -1, 0, 98, 99} {
		w.sends(t, now, "x", 0, api.ErrWait)
	}
	for _, now := range []int64{160, 161, 1000, greatest - 1, greatest} {
		w.sends(t, now, "x", 0, api.ErrNone)
	}
	for i := 1; i <= 6; i++ {
		w.sends(t, moment(example, i), "begins", i, api.OK)
		w.sends(t, moment(example, i)+1, "goes on", i, api.OK)
		w.sends(t, moment(example, i), "once more", i, api.OK)
		w.sends(t, moment(example, i+1)-1, "ends", i, api.OK)
	}
	w.sends(t, 160, "behind", 0, api.ErrNone)
	w.sends(t, 99, "ahead", 0, api.ErrWait)
	w.sends(t, 149, "elder", 0, api.ErrLate)
	w.sends(t, 159, "last", 6, api.OK)
}

// TestSendAtTheEdges sends in plans that lie at both ends, at each side of an interval's border, and at both ends of 64
// bits.
func TestSendAtTheEdges(t *testing.T) {
	for _, p := range append(corners(), example, planOf(-1, 10, 2, 5)) {
		w := watch(t, seedOf(9), p)
		for _, i := range []int{1, 2, 3, p.Count, p.Count + 1} {
			if i > p.Count+1 {
				continue
			}
			for _, by := range []int64{-1, 0, 1, p.Length - 1} {
				w.send(t, moment(p, i)+by, "x")
			}
		}
		w.sends(t, least, "x", 0, api.ErrWait)
		w.sends(t, greatest, "x", 0, api.ErrNone)
		w.sends(t, p.Start-1, "x", 0, api.ErrWait)
		w.sends(t, moment(p, p.Count+1), "x", 0, api.ErrNone)
	}
}

func TestSendIntervals(t *testing.T) {
	p := planOf(-500, 10, 3, 200)
	w := watch(t, seedOf(10), p)
	for _, c := range []struct {
		i int
		e api.Errno
	}{
		{2, api.OK}, {1, api.ErrLate}, {2, api.OK}, {2, api.OK}, {3, api.OK}, {2, api.ErrLate},
		{5, api.OK}, {9, api.OK}, {14, api.OK}, {13, api.ErrLate}, {14, api.OK}, {100, api.OK},
		{99, api.ErrLate}, {97, api.ErrLate}, {1, api.ErrLate}, {100, api.OK}, {101, api.OK},
		{200, api.OK}, {199, api.ErrLate}, {200, api.OK},
	} {
		i := c.i
		if c.e != api.OK {
			i = 0
		}
		w.sends(t, moment(p, c.i)+3, "x", i, c.e)
	}
}

func TestSendTexts(t *testing.T) {
	w := watch(t, seedOf(11), example)
	for _, n := range []int{0, 1, 2, 64, 999, 1000} {
		w.sends(t, 115, strings.Repeat("x", n), 2, api.OK)
	}
	for _, n := range []int{1001, 1002, 2000, 1 << 20} {
		w.sends(t, 115, strings.Repeat("x", n), 0, api.ErrSize)
		w.sends(t, 125, strings.Repeat("\x00", n), 0, api.ErrSize)
	}
	w.sends(t, 115, strings.Repeat("é", 500), 2, api.OK) // it is bytes that count
	w.sends(t, 115, strings.Repeat("é", 501), 0, api.ErrSize)
	for _, text := range []string{"\x00", "\xff\xfe\xfd", "a\x00b", "\n"} {
		w.sends(t, 115, text, 2, api.OK)
	}
}

func TestSendOfTheErrorNamedFirst(t *testing.T) {
	long := strings.Repeat("x", 1001)
	w := watch(t, seedOf(12), example)
	w.sends(t, 99, long, 0, api.ErrWait)
	w.sends(t, 160, long, 0, api.ErrNone)
	w.sends(t, 115, long, 0, api.ErrSize)
	w.sends(t, 125, "x", 3, api.OK)
	w.sends(t, 119, long, 0, api.ErrLate)
	w.sends(t, 99, "x", 0, api.ErrWait) // it is no elder interval that it is in
	w.sends(t, 99, long, 0, api.ErrWait)
	w.sends(t, 160, long, 0, api.ErrNone)
	w.sends(t, 125, long, 0, api.ErrSize)
	w.sends(t, 159, long, 0, api.ErrSize)
	w.sends(t, 120, "x", 3, api.OK)
}

// TestNothingIsChangedBesideErrors lets one sender do the same as another one, and err on the way.
func TestNothingIsChangedBesideErrors(t *testing.T) {
	long := strings.Repeat("x", 1001)
	p := planOf(100, 10, 2, 40)
	for from := 1; from <= p.Count; from++ {
		errs, plain := watch(t, seedOf(13), p), watch(t, seedOf(13), p)
		for i := from; i <= p.Count; i += from {
			errs.sends(t, moment(p, p.Count), long, 0, api.ErrSize) // as far on as it goes
			errs.sends(t, moment(p, i), long, 0, api.ErrSize)
			errs.sends(t, 99, "x", 0, api.ErrWait)
			errs.sends(t, moment(p, p.Count+1), "x", 0, api.ErrNone)
			if errs.last > 1 {
				errs.sends(t, moment(p, errs.last)-1, "x", 0, api.ErrLate)
			}
			got, _ := errs.send(t, moment(p, i), "x")
			want, _ := plain.send(t, moment(p, i), "x")
			if got != want {
				t.Fatalf("interval %d: %+v, want %+v", i, got, want)
			}
		}
	}
}

// delayed tells plans of all delays and counts at which something may go wrong.
func delayed() []plan.Plan {
	var told []plan.Plan
	for _, delay := range []int{1, 2, 3, 15, 16} {
		for _, count := range []int{1, 2, delay - 1, delay, delay + 1, 2*delay + 1, 2*delay + 2, 50, 1024} {
			if count >= 1 {
				told = append(told, planOf(-7, 3, delay, count))
			}
		}
	}
	return told
}

func TestTellsInEachInterval(t *testing.T) {
	for n, p := range delayed() {
		w := watch(t, seedOf(n), p)
		for i := 1; i <= p.Count; i++ {
			got, e := w.send(t, moment(p, i)+1, "x")
			if got.Tells != max(i-p.Delay, 0) || e != api.OK {
				t.Fatalf("%+v: interval %d tells %d, %d", p, i, got.Tells, e)
			}
			if i <= p.Delay && got.Key != (api.Key{}) {
				t.Fatalf("%+v: interval %d tells %x", p, i, got.Key)
			}
		}
	}
}

func TestTellsWithGaps(t *testing.T) {
	for n, p := range delayed() {
		for _, gap := range []int{2, 3, 4, 15, 16, 17, 18, 100, 1023} {
			w := watch(t, seedOf(n), p)
			for i := gap; i <= p.Count; i += gap {
				w.sends(t, moment(p, i), "x", i, api.OK)
				w.sends(t, moment(p, i)+2, "y", i, api.OK)
			}
		}
	}
}

// TestTellsBehindOneGap goes from each interval to each later one.
func TestTellsBehindOneGap(t *testing.T) {
	for _, delay := range []int{1, 2, 5, 16} {
		p := planOf(0, 1, delay, 40)
		for from := 1; from <= p.Count; from++ {
			for to := from; to <= p.Count; to++ {
				w := watch(t, seedOf(14), p)
				w.sends(t, moment(p, from), "x", from, api.OK)
				w.sends(t, moment(p, to), "x", to, api.OK)
			}
		}
	}
}

// TestLongRows sends at moments of which many are too early, and texts of which some are too long.
func TestLongRows(t *testing.T) {
	n := uint64(12)
	for row := range 60 {
		n = drawn(n)
		p := planOf(int64(n)>>3, int64(n>>24)%longest+1, int(n>>40%16)+1, int(n>>50%1024)+1)
		w := watch(t, seedOf(row), p)
		where := 0
		for range 60 {
			n = drawn(n)
			i := where + int(n>>33%40) - 8
			n = drawn(n)
			if n>>60 == 0 {
				i = int(n >> 33 % uint64(p.Count+3))
			}
			text := strings.Repeat(string(rune('a'+n>>40%26)), int(n>>45%1080))
			n = drawn(n)
			if _, e := w.send(t, moment(p, i)+int64(n>>1)%p.Length, text); e == api.OK {
				where = i
			}
		}
	}
}

// P12.3

// renew renews a sender, and holds the answer against chain.Next and plan.Then.
func (w *watched) renew(t *testing.T, seed api.Key) *watched {
	t.Helper()
	then, wanted := w.plan.Then()
	s, e := w.Renew()
	if (s == nil) != (wanted != api.OK) || e != wanted {
		t.Fatalf("%+v: Renew: %v, %d, want %d", w.plan, s, e, wanted)
	}
	w.look(t, "Renew")
	if s == nil {
		return nil
	}
	return with(t, s, chain.Next(seed), then)
}

// through sends in all intervals of a plan, and on each side of it.
func (w *watched) through(t *testing.T) {
	t.Helper()
	w.sends(t, w.plan.Start-1, "x", 0, api.ErrWait)
	for i := 1; i <= w.plan.Count; i++ {
		w.sends(t, moment(w.plan, i), "x", i, api.OK)
	}
	w.sends(t, moment(w.plan, w.plan.Count+1), "x", 0, api.ErrNone)
}

func TestRenewOnceAndTwice(t *testing.T) {
	seed := seedOf(15)
	w := watch(t, seed, example)
	w.sends(t, 125, "x", 3, api.OK)
	next := w.renew(t, seed)
	if next.plan.Start != 160 || next.last != 0 {
		t.Errorf("%+v, %d", next.plan, next.last)
	}
	next.sends(t, 159, "x", 0, api.ErrWait)
	next.sends(t, 160, "x", 1, api.OK)
	after := next.renew(t, chain.Next(seed))
	after.sends(t, 219, "x", 0, api.ErrWait)
	after.sends(t, 255, "x", 4, api.OK)
	w.sends(t, 119, "elder", 0, api.ErrLate) // each one goes on by itself
	w.sends(t, 129, "x", 3, api.OK)
	next.sends(t, 185, "x", 3, api.OK)
	w.sends(t, 159, "x", 6, api.OK)
	after.sends(t, 279, "x", 6, api.OK)
	next.sends(t, 219, "x", 6, api.OK)
	w.renew(t, seed).through(t) // as often as it is asked
	w.renew(t, seed).through(t)
}

func TestRenewUpToTheEnd(t *testing.T) {
	for _, c := range []struct {
		p     plan.Plan
		times int
	}{
		{planOf(edge-180, 10, 2, 6), 3}, // the last one begins just there
		{planOf(edge-179, 10, 2, 6), 2},
		{planOf(edge-181, 10, 2, 6), 3},
		{planOf(edge, 1, 1, 1), 0},
		{planOf(edge-1, 1, 16, 1), 1},
		{planOf(edge-1, 2, 16, 1), 0},
		{planOf(edge-2*longest*16, longest, 16, 16), 2},
		{planOf(edge, longest, 16, 1024), 0},
	} {
		seed := seedOf(16)
		w := watch(t, seed, c.p)
		for range c.times {
			w.send(t, w.plan.Start, "x")
			next := w.renew(t, seed)
			if next == nil {
				t.Fatalf("%+v: Renew: none", w.plan)
			}
			w.through(t)
			w, seed = next, chain.Next(seed)
		}
		if s, e := w.Renew(); s != nil || e != api.ErrOver {
			t.Fatalf("%+v: Renew: %v, %d, want none, %d", w.plan, s, e, api.ErrOver)
		}
		w.through(t) // which goes on as if nothing were
		w.renew(t, seed)
	}
}

func TestRenewOfFarPlans(t *testing.T) {
	for _, p := range corners()[:8] { // those that begin far from 2^60
		seed := seedOf(17)
		w := watch(t, seed, p)
		for range 3 {
			w = w.renew(t, seed)
			seed = chain.Next(seed)
		}
		w.sends(t, w.plan.Start, "x", 1, api.OK)
		w.sends(t, moment(w.plan, p.Count), "x", p.Count, api.OK)
	}
}

// TestKeysOfTheSenderBehind holds that no key of it is told by the elder one.
func TestKeysOfTheSenderBehind(t *testing.T) {
	seed := seedOf(18)
	w := watch(t, seed, example)
	next := w.renew(t, seed)
	for _, k := range w.keys {
		if slices.Contains(next.keys, k) {
			t.Fatalf("%x is a key of both", k)
		}
	}
	if next.Known() == w.Known() {
		t.Error("both are known by the same")
	}
}

// P12.4

// TestWhatFollows goes through broadcasts as a receiver does: what it learns is all that was told.
func TestWhatFollows(t *testing.T) {
	for n, p := range delayed() {
		for _, gap := range []int{1, 2, 3, 7, 17, 20} {
			s, _ := sender.New(seedOf(n), p)
			mind := chain.Mind{Known: s.Known()}
			for i := gap; i <= p.Count; i += gap {
				got, e := s.Send(moment(p, i), "x")
				if e != api.OK || got.Interval != i {
					t.Fatalf("%+v: interval %d: %+v, %d", p, i, got, e)
				}
				if got.Tells >= i || got.Tells == 0 && got.Key != (api.Key{}) {
					t.Fatalf("%+v: interval %d tells %d, %x", p, i, got.Tells, got.Key)
				}
				if got.Tells > 0 {
					mind = learn(t, p, s.Known(), mind, got)
				}
				if sender.Right(mind.Known, got) || sender.Right(got.Key, got) {
					t.Fatalf("%+v: interval %d is right by a key that is told", p, i)
				}
			}
		}
	}
}

// learn leads what a packet tells to what is known, at first and by now, and tells what is known then.
func learn(t *testing.T, p plan.Plan, known api.Key, mind chain.Mind, got api.Packet) chain.Mind {
	t.Helper()
	if e := chain.Check(known, 0, got.Key, got.Tells, chain.MaxLength); e != api.OK {
		t.Fatalf("%+v: Check of the key %d: %d", p, got.Tells, e)
	}
	learnt, e := mind.Learn(got.Key, got.Tells, chain.MaxLength)
	if e != api.OK {
		t.Fatalf("%+v: Learn of the key %d: %d", p, got.Tells, e)
	}
	return learnt
}

// TestRightByTheKeyThatIsTold minds all packets till their keys are told.
func TestRightByTheKeyThatIsTold(t *testing.T) {
	for n, p := range delayed() {
		s, _ := sender.New(seedOf(n), p)
		var sent []api.Packet
		for i := 1; i <= p.Count; i++ {
			for _, text := range []string{"", "a", strings.Repeat("b", 1000)} {
				got, _ := s.Send(moment(p, i), text)
				sent = append(sent, got)
			}
		}
		told := map[int]api.Key{}
		for _, got := range sent {
			if got.Tells > 0 {
				told[got.Tells] = got.Key
			}
		}
		if len(told) != max(p.Count-p.Delay, 0) {
			t.Fatalf("%+v: %d keys are told", p, len(told))
		}
		for _, got := range sent {
			if k, is := told[got.Interval]; is && !sender.Right(k, got) {
				t.Fatalf("%+v: the packet of interval %d is wrong by its key", p, got.Interval)
			}
			if k, is := told[got.Interval+1]; is && sender.Right(k, got) {
				t.Fatalf("%+v: the packet of interval %d is right by the next key", p, got.Interval)
			}
		}
	}
}

// R4, R5

func TestTwoByTurns(t *testing.T) {
	p, q := example, planOf(90, 3, 5, 30)
	a, b, c := watch(t, seedOf(20), p), watch(t, seedOf(21), q), watch(t, seedOf(20), p)
	for now := int64(85); now < 190; now++ {
		a.send(t, now, "a")
		b.send(t, now, "b")
		if now%4 == 0 {
			c.send(t, now, "a")
		}
		b.send(t, now-2, "b")
	}
}

func TestTheSameCallsAnswerTheSame(t *testing.T) {
	row := func() []api.Packet {
		s, _ := sender.New(seedOf(22), example)
		var told []api.Packet
		for _, now := range []int64{99, 100, 105, 131, 120, 131, 159, 160} {
			got, _ := s.Send(now, "x")
			told = append(told, got)
		}
		next, _ := s.Renew()
		got, _ := next.Send(200, "y")
		return append(told, got)
	}
	first := row()
	for range 3 {
		if !slices.Equal(row(), first) {
			t.Fatal("the same calls answer two things")
		}
	}
}
