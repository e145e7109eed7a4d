package volley_test

import (
	"crypto/hmac"
	"crypto/sha256"
	"encoding/binary"
	"math"
	"math/big"
	"strings"
	"testing"

	"timeball/api"
	"timeball/drift"
	"timeball/volley"
)

const (
	least    = math.MinInt64
	greatest = math.MaxInt64
	half     = 1 << 62
	most     = drift.MaxRate
)

// none is what stands beside every error.
var none volley.Sample

// ends tells numbers of 64 bits at which something may go wrong.
func ends() []int64 {
	return []int64{least, least + 1, -half - 1, -half, -1, 0, 1, half - 1, half, greatest - 1, greatest}
}

// rates tells rates: all that may not be, and those at the ends of what may be.
func rates() []int64 {
	return []int64{least, least + 1, -1, 0, 1, most - 1, most, most + 1, greatest - 1, greatest}
}

// of tells a number as one of any size.
func of(n int64) *big.Int { return big.NewInt(n) }

// sum tells a sum of any size.
func sum(a, b *big.Int) *big.Int { return new(big.Int).Add(a, b) }

// less tells a difference of any size.
func less(a, b *big.Int) *big.Int { return new(big.Int).Sub(a, b) }

// down tells the greatest number that is no more than a part.
func down(n *big.Int, by int64) *big.Int {
	q, left := new(big.Int).QuoRem(n, of(by), new(big.Int))
	if left.Sign() < 0 {
		return less(q, of(1))
	}
	return q
}

// up tells the least number that is no less than a part.
func up(n *big.Int, by int64) *big.Int { return new(big.Int).Neg(down(new(big.Int).Neg(n), by)) }

// sampleOf tells what Round must answer, by numbers of any size, the errors in the order in which they are named.
func sampleOf(t1, t2, t3, t4, rate int64) (volley.Sample, api.Errno) {
	if rate < 0 || rate > most || t4 < t1 || t3 < t2 {
		return none, api.ErrArg
	}
	passed, took := less(of(t4), of(t1)), less(of(t3), of(t2))
	there, back := less(of(t2), of(t1)), less(of(t3), of(t4))
	delay := less(passed, took)
	offset := down(sum(there, back), 2)
	grown := up(new(big.Int).Mul(passed, of(2*rate)), 1000000000)
	bound := sum(sum(up(delay, 2), grown), of(2))
	for _, n := range []*big.Int{passed, took, there, back, delay, offset, bound} {
		if !n.IsInt64() {
			return none, api.ErrOver
		}
	}
	if delay.Sign() < 0 {
		return none, api.ErrRange
	}
	return volley.Sample{Offset: offset.Int64(), Delay: delay.Int64(), Bound: bound.Int64()}, api.OK
}

// round holds a sample against what it must be, and tells it.
func round(t *testing.T, t1, t2, t3, t4, rate int64) (volley.Sample, api.Errno) {
	t.Helper()
	want, wanted := sampleOf(t1, t2, t3, t4, rate)
	got, e := volley.Round(t1, t2, t3, t4, rate)
	if got != want || e != wanted {
		t.Fatalf("Round(%d, %d, %d, %d, %d): %+v, %d, want %+v, %d", t1, t2, t3, t4, rate, got, e, want, wanted)
	}
	return got, e
}

// rounds holds a sample against one that the test names, too: one of an error must be none.
func rounds(t *testing.T, t1, t2, t3, t4, rate int64, want volley.Sample, wanted api.Errno) {
	t.Helper()
	if got, e := round(t, t1, t2, t3, t4, rate); got != want || e != wanted {
		t.Fatalf("Round(%d, %d, %d, %d, %d): %+v, %d, and the test names %+v, %d", t1, t2, t3, t4, rate, got, e, want, wanted)
	}
}

// told tells a sample.
func told(offset, delay, bound int64) volley.Sample {
	return volley.Sample{Offset: offset, Delay: delay, Bound: bound}
}

// drawn makes what tells numbers below others, that look like drawn ones, and are the same each time.
func drawn(n uint64) func(below int) int {
	return func(below int) int {
		n = n*6364136223846793005 + 1442695040888963407
		return int(n >> 33 % uint64(below))
	}
}

// span draws a number of up to 63 bits: of each length of bits about as often as of another, and oftener of the greatest.
func span(draw func(below int) int) int64 {
	n := int64(draw(1<<31))<<32 | int64(draw(1<<31))<<1 | int64(draw(2))
	return n >> max(draw(80)-17, 0)
}

// number draws such a number, or what it is below 0.
func number(draw func(below int) int) int64 {
	if draw(2) == 0 {
		return span(draw)
	}
	return -span(draw)
}

// P14.1

func TestRoundOfTheChapter(t *testing.T) { rounds(t, 100, 160, 170, 130, 0, told(50, 20, 12), api.OK) }

func TestRoundOfOrdinaryMoments(t *testing.T) {
	rounds(t, 100, 160, 170, 131, 0, told(49, 21, 13), api.OK)
	rounds(t, 0, 5, 5, 10, 0, told(0, 10, 7), api.OK)
	rounds(t, 0, 0, 0, 0, 0, told(0, 0, 2), api.OK)
	rounds(t, 1000, 10, 30, 1100, 0, told(-1030, 80, 42), api.OK)
	rounds(t, -1000, 10, 30, -900, 0, told(970, 80, 42), api.OK)
	rounds(t, -50, -170, -160, -20, 0, told(-130, 20, 12), api.OK)
	rounds(t, 0, 1000000, 1000000, 1000, 0, told(999500, 1000, 502), api.OK)
}

// The Bound grows by twice the rate, and by all that passed: not by the Delay alone, and not by what the server took.
func TestRoundsBoundGrowsByTwiceTheRate(t *testing.T) {
	rounds(t, 0, 0, 0, 1000000000, 5, told(-500000000, 1000000000, 500000012), api.OK)
	rounds(t, 0, 0, 1000000000, 1000000000, 5, told(0, 0, 12), api.OK)
	rounds(t, 0, 0, 999999990, 1000000000, 5, told(-5, 10, 17), api.OK)
	rounds(t, 0, 0, 0, 100, most, told(-50, 100, 50+20+2), api.OK)
	rounds(t, 0, 0, 100, 100, most, told(0, 0, 22), api.OK)
}

// What is grown is rounded up, as half of the Delay is, each by itself.
func TestRoundsBoundIsRoundedUp(t *testing.T) {
	rounds(t, 0, 0, 0, 1, 1, told(-1, 1, 4), api.OK)
	rounds(t, 0, 0, 1, 1, 1, told(0, 0, 3), api.OK)
	rounds(t, 0, 0, 500000000, 500000000, 1, told(0, 0, 3), api.OK)
	rounds(t, 0, 0, 500000001, 500000001, 1, told(0, 0, 4), api.OK)
	rounds(t, 0, 0, 5, 5, most, told(0, 0, 3), api.OK)
	rounds(t, 0, 0, 6, 6, most, told(0, 0, 4), api.OK)
	rounds(t, 0, 0, 0, 6, most, told(-3, 6, 3+2+2), api.OK)
	rounds(t, 0, 0, 0, 7, most, told(-4, 7, 4+2+2), api.OK)
}

func TestRoundOfSumsThatAreOddAndEven(t *testing.T) {
	rounds(t, 0, 4, 4, 0, 0, told(4, 0, 2), api.OK)    // 4 and 4
	rounds(t, 0, 4, 4, 1, 0, told(3, 1, 3), api.OK)    // 4 and 3
	rounds(t, 0, 4, 4, 2, 0, told(3, 2, 3), api.OK)    // 4 and 2
	rounds(t, 0, 4, 4, 3, 0, told(2, 3, 4), api.OK)    // 4 and 1
	rounds(t, 0, 1, 1, 1, 0, told(0, 1, 3), api.OK)    // 1 and 0
	rounds(t, 0, 1, 1, 2, 0, told(0, 2, 3), api.OK)    // 1 and -1
	rounds(t, 0, 0, 0, 1, 0, told(-1, 1, 3), api.OK)   // 0 and -1: half of -1, rounded down
	rounds(t, 0, 0, 0, 2, 0, told(-1, 2, 3), api.OK)   // 0 and -2
	rounds(t, 0, 0, 0, 3, 0, told(-2, 3, 4), api.OK)   // 0 and -3
	rounds(t, 0, -4, -4, 0, 0, told(-4, 0, 2), api.OK) // -4 and -4
	rounds(t, 0, -4, -4, 1, 0, told(-5, 1, 3), api.OK) // -4 and -5
	rounds(t, 0, -4, -4, 2, 0, told(-5, 2, 3), api.OK) // -4 and -6
}

func TestRoundAtEachRate(t *testing.T) {
	for _, rate := range rates() {
		if _, e := round(t, 100, 160, 170, 130, rate); (e == api.OK) != (rate >= 0 && rate <= most) {
			t.Fatalf("rate %d: %d", rate, e)
		}
	}
	rounds(t, 100, 160, 170, 130, -1, none, api.ErrArg)
	rounds(t, 100, 160, 170, 130, most, told(50, 20, 12+6), api.OK)
	rounds(t, 100, 160, 170, 130, most+1, none, api.ErrArg)
	rounds(t, 100, 160, 170, 130, least, none, api.ErrArg)
	rounds(t, 100, 160, 170, 130, greatest, none, api.ErrArg)
	rounds(t, 100, 160, 170, 130, 1<<32, none, api.ErrArg)
}

func TestRoundOfMomentsThatAreTurnedAbout(t *testing.T) {
	for _, n := range []int64{least + 1, -half, -1, 0, 1, half, greatest} {
		rounds(t, n, n, n, n-1, 0, none, api.ErrArg)
		rounds(t, n, n, n, n, 0, told(0, 0, 2), api.OK)
		rounds(t, n, n, n-1, n, 0, none, api.ErrArg)
		rounds(t, n-1, n, n-1, n, 0, none, api.ErrArg)
		rounds(t, n-1, n-1, n, n, 0, told(0, 0, 2), api.OK)
	}
	rounds(t, 1, 0, 0, 0, 0, none, api.ErrArg)
	rounds(t, 0, 1, 0, 5, 0, none, api.ErrArg)
	rounds(t, greatest, 0, 0, least, 0, none, api.ErrArg)
	rounds(t, 0, greatest, least, 0, 0, none, api.ErrArg)
}

func TestRoundOfTheErrorNamedFirst(t *testing.T) {
	rounds(t, least, 0, 0, 0, -1, none, api.ErrArg)             // and too much passed
	rounds(t, 0, 0, 5, 4, most+1, none, api.ErrArg)             // and the Delay below 0
	rounds(t, 0, least, 0, -1, 0, none, api.ErrArg)             // and the server took too long
	rounds(t, least, 1, 0, 0, 0, none, api.ErrArg)              // and too much passed
	rounds(t, 0, least, 0, 0, 0, none, api.ErrOver)             // the server took too long, and so the Delay is below 0
	rounds(t, -1, 0, greatest, -1, 0, none, api.ErrOver)        // t3 less t4, and the Delay below 0
	rounds(t, greatest, -2, -1, greatest, 0, none, api.ErrOver) // t2 less t1, and the Delay below 0
	rounds(t, 0, 0, 5, 4, 0, none, api.ErrRange)
}

// Here one difference is just within 64 bits or just outside, and, but where it is told, all others are within.
func TestRoundOfDifferencesAtTheEndsOf64Bits(t *testing.T) {
	// t4 less t1
	rounds(t, least, -1, -1, -1, 0, told(half-1, greatest, half+2), api.OK)
	rounds(t, least, -1, -1, 0, 0, none, api.ErrOver)
	rounds(t, -1, half, half, greatest-1, 0, told(1, greatest, half+2), api.OK)
	rounds(t, -1, half, half, greatest, 0, none, api.ErrOver)
	// t3 less t2
	rounds(t, least, least, -1, -1, 0, told(0, 0, 2), api.OK)
	rounds(t, -1, least, -1, -1, 0, none, api.ErrRange)
	rounds(t, -1, least, 0, -1, 0, none, api.ErrOver)
	rounds(t, -1, -1, greatest-1, -1, 0, none, api.ErrRange)
	rounds(t, 0, -1, greatest, 0, 0, none, api.ErrOver)
	// t2 less t1, above
	rounds(t, -1, greatest-1, greatest-1, -1, 0, told(greatest, 0, 2), api.OK)
	rounds(t, -1, greatest-1, greatest-1, 0, 0, told(greatest-1, 1, 3), api.OK)
	rounds(t, -1, greatest, greatest, 0, 0, none, api.ErrOver)
	rounds(t, least, 0, 0, -1, 0, none, api.ErrOver)
	// t2 less t1, below: then t3 less t4 is, too, or the Delay is below 0
	rounds(t, greatest, -1, -1, greatest, 0, told(least, 0, 2), api.OK)
	rounds(t, greatest, -2, -1, greatest, 0, none, api.ErrOver)
	rounds(t, greatest, -1, 0, greatest, 0, none, api.ErrRange)
	// t3 less t4, below
	rounds(t, 0, -1, -1, greatest, 0, told(-half-1, greatest, half+2), api.OK)
	rounds(t, 0, -2, -2, greatest, 0, none, api.ErrOver)
	rounds(t, greatest-1, -1, -1, greatest, 0, told(least, 1, 3), api.OK)
	// t3 less t4, above: then t2 less t1 is, too, or the Delay is below 0
	rounds(t, -1, 0, greatest-1, -1, 0, none, api.ErrRange)
	rounds(t, -1, 0, greatest, -1, 0, none, api.ErrOver)
	// both of them
	rounds(t, -half, half-1, half-1, -half, 0, told(greatest, 0, 2), api.OK)
	rounds(t, -half, half, half, -half, 0, none, api.ErrOver)
	rounds(t, half, -half, -half, half, 0, told(least, 0, 2), api.OK)
	rounds(t, half, -half-1, -half-1, half, 0, none, api.ErrOver)
}

// Where the differences are numbers of 64 bits, so are the Delay, the Offset and the Bound: here they are as great as
// they may be.
func TestRoundOfSamplesAtTheirEnds(t *testing.T) {
	const grown = 1844674407370955162 // a fifth of 2^63 - 1, rounded up
	rounds(t, -1, greatest-1, greatest-1, -1, most, told(greatest, 0, 2), api.OK)
	rounds(t, greatest, -1, -1, greatest, most, told(least, 0, 2), api.OK)
	rounds(t, least, -1, -1, -1, most, told(half-1, greatest, half+grown+2), api.OK)
	rounds(t, 0, 0, 0, greatest, most, told(-half, greatest, half+grown+2), api.OK)
	rounds(t, 0, 0, 0, greatest-1, most, told(-half+1, greatest-1, half-1+grown+2), api.OK)
	rounds(t, 0, 0, greatest, greatest, most, told(0, 0, grown+2), api.OK)
	rounds(t, 0, 0, greatest, 0, most, none, api.ErrRange)
	rounds(t, least, least, -1, least, 0, none, api.ErrRange)
}

func TestRoundOfDelaysAroundZero(t *testing.T) {
	for _, n := range []int64{least, -half, -100, 0, 100, half, greatest - 11} {
		rounds(t, n, n, n+10, n+9, 0, none, api.ErrRange)
		rounds(t, n, n, n+10, n+10, 0, told(0, 0, 2), api.OK)
		rounds(t, n, n, n+10, n+11, 0, told(-1, 1, 3), api.OK)
	}
	rounds(t, 0, 0, 1, 0, 0, none, api.ErrRange)
	rounds(t, 0, 0, 2, 0, most, none, api.ErrRange) // a Bound is no Delay
}

func TestRoundAtAllEnds(t *testing.T) {
	for _, t1 := range ends() {
		for _, t2 := range ends() {
			for _, t3 := range ends() {
				for _, t4 := range ends() {
					round(t, t1, t2, t3, t4, 0)
					round(t, t1, t2, t3, t4, most)
				}
			}
		}
	}
}

func TestRoundAtSmallNumbers(t *testing.T) {
	const far = 6
	for t1 := int64(-far); t1 <= far; t1++ {
		for t2 := int64(-far); t2 <= far; t2++ {
			for t3 := t2 - 1; t3 <= far; t3++ {
				for t4 := t1 - 1; t4 <= far; t4++ {
					round(t, t1, t2, t3, t4, most)
				}
			}
		}
	}
}

func TestRoundOfDrawnMoments(t *testing.T) {
	draw := drawn(140)
	seen := map[api.Errno]int{}
	for range 30000 {
		t1, t2, rate := number(draw), number(draw), int64(draw(most+1))
		_, e := round(t, t1, t2, t2+span(draw), t1+span(draw), rate) // which wraps round now and then
		seen[e]++
	}
	for _, e := range []api.Errno{api.OK, api.ErrArg, api.ErrOver, api.ErrRange} {
		if seen[e] < 100 {
			t.Fatalf("too few of %d: %v", e, seen)
		}
	}
}

// P14.2

// tagOf tells the first 16 bytes of a tag, by the library.
func tagOf(key, text string) string {
	h := hmac.New(sha256.New, []byte(key))
	h.Write([]byte(text))
	return string(h.Sum(nil)[:16])
}

// bytesOf tells a moment's bytes, by the library.
func bytesOf(n int64) string { return string(binary.BigEndian.AppendUint64(nil, uint64(n))) }

// askOf tells the ask of a draw and a moment.
func askOf(draw string, now int64) string { return draw + bytesOf(now) }

// answerOf tells the answer to an ask, however long that is.
func answerOf(key, ask string, t2, t3 int64) string {
	own := ask + bytesOf(t2) + bytesOf(t3)
	return own + tagOf(key, own)
}

// drawOf tells a draw that looks like a drawn one.
func drawOf(n int) string {
	k := sha256.Sum256(binary.BigEndian.AppendUint64(nil, uint64(n)))
	return string(k[:16])
}

// answers holds an answer against what it must be.
func answers(t *testing.T, key, ask string, t2, t3 int64) {
	t.Helper()
	want, wanted := answerOf(key, ask, t2, t3), api.OK
	if len(ask) != 24 {
		want, wanted = "", api.ErrSize
	}
	if got, e := volley.Answer(key, ask, t2, t3); got != want || e != wanted {
		t.Fatalf("Answer(%q, %q, %d, %d): %q, %d, want %q, %d", key, ask, t2, t3, got, e, want, wanted)
	}
}

func TestAnswer(t *testing.T) {
	ask := "0123456789abcdef\xff\xff\xff\xff\xff\xff\xff\xfe"
	got, e := volley.Answer("key", ask, 100, 1<<40+101)
	if len(got) != 56 || got[:40] != ask+"\x00\x00\x00\x00\x00\x00\x00\x64\x00\x00\x01\x00\x00\x00\x00\x65" || e != api.OK {
		t.Fatalf("%q, %d", got, e)
	}
	if got[40:] != tagOf("key", got[:40]) {
		t.Fatalf("the tag %x", got[40:])
	}
	answers(t, "key", ask, 100, 1<<40+101)
}

func TestAnswerOfAsksOfEachLength(t *testing.T) {
	whole := strings.Repeat("0123456789", 10)
	for n := range len(whole) {
		answers(t, "key", whole[:n], 1, 2)
	}
	for _, n := range []int{0, 1, 16, 23, 25, 40, 48, 56, 24 + 256, 1 << 20} {
		if got, e := volley.Answer("key", strings.Repeat("a", n), 1, 2); got != "" || e != api.ErrSize {
			t.Fatalf("%d bytes: %q, %d", n, got, e)
		}
	}
	if got, e := volley.Answer("", "", 2, 1); got != "" || e != api.ErrSize {
		t.Fatalf("none: %q, %d", got, e)
	}
}

func TestAnswerByKeysOfEachLength(t *testing.T) {
	for _, n := range []int{0, 1, 16, 31, 32, 63, 64, 65, 128, 129, 300, 777} {
		answers(t, strings.Repeat("k", n), askOf(drawOf(n), int64(n)), 5, 6)
	}
	answers(t, "\x00", askOf(drawOf(1), 1), 5, 6)
	answers(t, strings.Repeat("\xff\x00", 100), askOf(drawOf(1), 1), 5, 6)
}

func TestAnswerAtAllMoments(t *testing.T) {
	moments := append(ends(), -256, -255, -128, 127, 128, 255, 256, 65535, 65536, 1<<32-1, 1<<32, -1<<32)
	for _, t2 := range moments {
		for _, t3 := range moments { // t3 may be before t2: that is for Round to refuse
			answers(t, "key", askOf(drawOf(2), t3), t2, t3)
		}
	}
}

func TestAnswerOfAsksOfAllBytes(t *testing.T) {
	for n := range 256 {
		answers(t, "key", strings.Repeat(string([]byte{byte(n)}), 24), 1, 2)
	}
}

// The tag hangs on the key and on each byte ahead of it.
func TestAnswersTagHangsOnAll(t *testing.T) {
	seen := map[string]bool{}
	mark := func(key, ask string, t2, t3 int64) {
		t.Helper()
		s, e := volley.Answer(key, ask, t2, t3)
		if e != api.OK || seen[s[40:]] {
			t.Fatalf("Answer(%q, %q, %d, %d): %q, %d: the tag was there", key, ask, t2, t3, s, e)
		}
		seen[s[40:]] = true
	}
	ask := []byte(askOf(drawOf(3), 7))
	mark("key", string(ask), 1, 2)
	mark("kez", string(ask), 1, 2)
	mark("", string(ask), 1, 2)
	mark("key", string(ask), 2, 1)
	mark("key", string(ask), 1, 3)
	mark("key", string(ask), 0, 2)
	for n := range ask {
		ask[n] ^= 1
		mark("key", string(ask), 1, 2)
		ask[n] ^= 1
	}
}

// P14.3

// watched is a volley, and what it must hold: all that was drawn, and the ask that is open.
type watched struct {
	*volley.Volley
	key   string
	rate  int64
	drawn []string
	open  bool
	draw  string
	asked int64
}

// watch makes a volley that is watched.
func watch(t *testing.T, key string, rate int64) *watched {
	t.Helper()
	v, e := volley.New(key, rate)
	if v == nil || e != api.OK {
		t.Fatalf("New(%q, %d): %v, %d", key, rate, v, e)
	}
	w := &watched{Volley: v, key: key, rate: rate}
	w.look(t, "New")
	return w
}

// look holds Open against what it must tell.
func (w *watched) look(t *testing.T, behind string) {
	t.Helper()
	if open := w.Open(); open != w.open {
		t.Fatalf("behind %s: Open %t, want %t", behind, open, w.open)
	}
}

// ask asks, holds the ask against what it must be, and tells it.
func (w *watched) ask(t *testing.T, draw string, now int64) (string, api.Errno) {
	t.Helper()
	want, wanted := askOf(draw, now), api.OK
	if len(draw) != 16 {
		want, wanted = "", api.ErrSize
	}
	for _, d := range w.drawn {
		if d == draw {
			want, wanted = "", api.ErrTwice
		}
	}
	if wanted == api.OK {
		w.drawn = append(w.drawn, draw)
		w.open, w.draw, w.asked = true, draw, now
	}
	got, e := w.Ask(draw, now)
	if got != want || e != wanted {
		t.Fatalf("Ask(%q, %d): %q, %d, want %q, %d", draw, now, got, e, want, wanted)
	}
	w.look(t, "Ask")
	return got, e
}

// asks asks, where the error must be the one that the test names.
func (w *watched) asks(t *testing.T, draw string, now int64, e api.Errno) string {
	t.Helper()
	got, told := w.ask(t, draw, now)
	if told != e {
		t.Fatalf("Ask(%q, %d): %d, and the test names %d", draw, now, told, e)
	}
	return got
}

// want tells what Take must answer, the errors in the order in which they are named.
func (w *watched) want(answer string, now int64) (volley.Sample, api.Errno) {
	switch {
	case !w.open:
		return none, api.ErrNone
	case len(answer) != 56:
		return none, api.ErrSize
	case answer[:24] != askOf(w.draw, w.asked):
		return none, api.ErrForm
	case answer[40:] != tagOf(w.key, answer[:40]):
		return none, api.ErrMac
	}
	w.open = false
	t2, t3 := binary.BigEndian.Uint64([]byte(answer[24:32])), binary.BigEndian.Uint64([]byte(answer[32:40]))
	return sampleOf(w.asked, int64(t2), int64(t3), now, w.rate)
}

// take takes, holds the sample against what it must be, and tells it.
func (w *watched) take(t *testing.T, answer string, now int64) (volley.Sample, api.Errno) {
	t.Helper()
	want, wanted := w.want(answer, now)
	got, e := w.Take(answer, now)
	if got != want || e != wanted {
		t.Fatalf("Take(%q, %d): %+v, %d, want %+v, %d", answer, now, got, e, want, wanted)
	}
	w.look(t, "Take")
	return got, e
}

// takes takes, where the sample and the error must be those that the test names.
func (w *watched) takes(t *testing.T, answer string, now int64, s volley.Sample, e api.Errno) {
	t.Helper()
	if got, told := w.take(t, answer, now); got != s || told != e {
		t.Fatalf("Take(%q, %d): %+v, %d, and the test names %+v, %d", answer, now, got, told, s, e)
	}
}

// refuses takes what must be refused by an error that leaves the ask as it is, whatever the moment.
func (w *watched) refuses(t *testing.T, answer string, e api.Errno) {
	t.Helper()
	open := w.open
	for _, now := range ends() {
		w.takes(t, answer, now, none, e)
		if w.open != open {
			t.Fatalf("Take(%q, %d): open %t, and it was %t", answer, now, w.open, open)
		}
	}
}

// turned tells an answer of which a bit is turned.
func turned(answer string, at, bit int) string {
	b := []byte(answer)
	b[at] ^= 1 << bit
	return string(b)
}

func TestNew(t *testing.T) {
	for _, key := range []string{"k", "\x00", "key", strings.Repeat("k", 64), strings.Repeat("k", 65), strings.Repeat("k", 700)} {
		for _, rate := range []int64{0, 1, 1000, most - 1, most} {
			w := watch(t, key, rate)
			w.refuses(t, "", api.ErrNone)
			w.refuses(t, answerOf(key, askOf("", 0), 0, 0), api.ErrNone)
		}
	}
}

func TestNewOfWhatMayNotBe(t *testing.T) {
	for _, key := range []string{"", "key"} {
		for _, rate := range rates() {
			v, e := volley.New(key, rate)
			if may := key != "" && rate >= 0 && rate <= most; may != (e == api.OK) || may != (v != nil) {
				t.Fatalf("New(%q, %d): %v, %d", key, rate, v, e)
			}
			if e != api.OK && e != api.ErrArg {
				t.Fatalf("New(%q, %d): %d", key, rate, e)
			}
		}
	}
}

func TestThereAndBack(t *testing.T) {
	w := watch(t, "key", 0)
	ask := w.asks(t, "0123456789abcdef", 100, api.OK)
	if ask != "0123456789abcdef\x00\x00\x00\x00\x00\x00\x00\x64" {
		t.Fatalf("%q", ask)
	}
	answer, e := volley.Answer("key", ask, 160, 170)
	if e != api.OK {
		t.Fatalf("%d", e)
	}
	w.takes(t, answer, 130, told(50, 20, 12), api.OK)
	w.refuses(t, answer, api.ErrNone)
}

func TestAskOfDrawsOfEachLength(t *testing.T) {
	w := watch(t, "key", 0)
	whole := strings.Repeat("0123456789abcdef", 5)
	for n := range len(whole) {
		want := api.ErrSize
		if n == 16 {
			want = api.OK
		}
		w.asks(t, whole[:n], 5, want)
		if w.open != (n >= 16) {
			t.Fatalf("%d bytes: open %t", n, w.open)
		}
	}
	w.asks(t, strings.Repeat("a", 16+256), 5, api.ErrSize)
	w.takes(t, answerOf("key", askOf(whole[:16], 5), 6, 7), 8, told(0, 2, 3), api.OK)
}

func TestAskAtAllMoments(t *testing.T) {
	w := watch(t, "key", most)
	for n, now := range append(ends(), -256, 255, 256, 1<<32, -1<<32) {
		ask := w.asks(t, drawOf(n), now, api.OK)
		w.takes(t, answerOf("key", ask, now, now), now, told(0, 0, 2), api.OK)
	}
}

// Draws of any bytes are draws, and one that differs by a single bit is another one.
func TestAskOfDrawsOfAllBytes(t *testing.T) {
	w := watch(t, "key", 0)
	for n := range 256 {
		draw := strings.Repeat(string([]byte{byte(n)}), 16)
		w.asks(t, draw, 1, api.OK)
		w.asks(t, draw, 1, api.ErrTwice)
	}
	one := drawOf(1)
	w.asks(t, one, 1, api.OK)
	for n := range 16 {
		for bit := range 8 {
			w.asks(t, turned(one, n, bit), 1, api.OK)
		}
	}
	for n := range 16 {
		for bit := range 8 {
			w.asks(t, turned(one, n, bit), 2, api.ErrTwice)
		}
	}
}

func TestAskOfWhatWasDrawn(t *testing.T) {
	w := watch(t, "key", 0)
	one, two := drawOf(1), drawOf(2)
	ask := w.asks(t, one, 10, api.OK)
	w.asks(t, one, 10, api.ErrTwice) // while it is open
	w.asks(t, one, 11, api.ErrTwice)
	w.takes(t, answerOf("key", ask, 20, 20), 10, told(10, 0, 2), api.OK)
	w.asks(t, one, 10, api.ErrTwice) // behind a Take
	if w.open {
		t.Fatal("a draw that was drawn already is open")
	}
	w.asks(t, two, 10, api.OK)
	w.asks(t, one, 10, api.ErrTwice) // behind another ask
	w.asks(t, two, 10, api.ErrTwice)
	for n := range 200 {
		w.asks(t, drawOf(n+3), 10, api.OK)
	}
	for n := range 202 {
		w.asks(t, drawOf(n+1), 10, api.ErrTwice) // behind many
	}
	w.asks(t, drawOf(0), 10, api.OK) // a draw that is refused isn't drawn: this one never was
	w.asks(t, one, 10, api.ErrTwice)
}

func TestARefusedAskLeavesTheOpenOne(t *testing.T) {
	for _, draw := range []string{"", drawOf(1)[:15], drawOf(1) + "x", drawOf(1), drawOf(2)} {
		w := watch(t, "key", 0)
		w.asks(t, drawOf(2), 5, api.OK)
		ask := w.asks(t, drawOf(1), 10, api.OK)
		if _, e := w.ask(t, draw, 90); e == api.OK {
			t.Fatalf("%q is asked", draw)
		}
		if !w.open {
			t.Fatalf("%q: nothing is open", draw)
		}
		w.takes(t, answerOf("key", ask, 20, 22), 14, told(9, 2, 3), api.OK)
	}
}

// What was asked ahead is open no more, even if its answer comes as it must be.
func TestTakeOfAnElderAsksAnswer(t *testing.T) {
	w := watch(t, "key", 0)
	elder := w.asks(t, drawOf(1), 10, api.OK)
	newer := w.asks(t, drawOf(2), 10, api.OK)
	w.refuses(t, answerOf("key", elder, 20, 20), api.ErrForm)
	w.takes(t, answerOf("key", newer, 20, 20), 12, told(9, 2, 3), api.OK)
	w.refuses(t, answerOf("key", elder, 20, 20), api.ErrNone)
	newest := w.asks(t, drawOf(3), 10, api.OK)
	w.refuses(t, answerOf("key", elder, 20, 20), api.ErrForm)
	w.refuses(t, answerOf("key", newer, 20, 20), api.ErrForm)
	w.takes(t, answerOf("key", newest, 20, 20), 12, told(9, 2, 3), api.OK)
}

func TestTakeWhenNothingIsOpen(t *testing.T) {
	w := watch(t, "key", 0)
	ask := askOf(drawOf(1), 10)
	answer := answerOf("key", ask, 20, 20)
	for _, a := range []string{"", answer, answer[:55], answer + "x", turned(answer, 55, 0), strings.Repeat("\x00", 56)} {
		w.refuses(t, a, api.ErrNone) // when nothing was asked
	}
	w.asks(t, drawOf(1), 10, api.OK)
	w.takes(t, answer, 10, told(10, 0, 2), api.OK)
	for _, a := range []string{"", answer, answer[:55], answer + "x", turned(answer, 55, 0), strings.Repeat("\x00", 56)} {
		w.refuses(t, a, api.ErrNone) // when it was taken already
	}
	w.asks(t, drawOf(2), 10, api.OK)
	w.refuses(t, answer, api.ErrForm)
}

func TestTakeOfAnswersOfEachLength(t *testing.T) {
	w := watch(t, "key", 0)
	ask := w.asks(t, drawOf(1), 10, api.OK)
	answer := answerOf("key", ask, 20, 20)
	for n := range 200 {
		if n != 56 {
			w.refuses(t, strings.Repeat(answer, 4)[:n], api.ErrSize)
		}
	}
	w.refuses(t, ask, api.ErrSize)
	w.refuses(t, strings.Repeat(answer, 257), api.ErrSize)
	w.refuses(t, "x"+answer, api.ErrSize)
	own := answer[:40]
	for _, n := range []int{8, 15, 17, 32} { // tags that mac.Right takes, but that no answer bears
		h := hmac.New(sha256.New, []byte("key"))
		h.Write([]byte(own))
		w.refuses(t, own+string(h.Sum(nil)[:n]), api.ErrSize)
	}
	w.takes(t, answer, 10, told(10, 0, 2), api.OK)
}

func TestTakeOfAnswersWithATurnedBit(t *testing.T) {
	w := watch(t, "key", 0)
	ask := w.asks(t, drawOf(1), 10, api.OK)
	answer := answerOf("key", ask, 20, 20)
	for at := range answer {
		want := api.ErrMac
		if at < 24 {
			want = api.ErrForm
		}
		for bit := range 8 {
			w.takes(t, turned(answer, at, bit), 10, none, want)
		}
	}
	w.refuses(t, answer[:40]+strings.Repeat("\x00", 16), api.ErrMac)
	w.refuses(t, answer[24:48]+answer[24:], api.ErrForm)
	w.takes(t, answer, 10, told(10, 0, 2), api.OK)
}

// An answer to another ask that bears a right tag is refused as of another ask; what is of this one, but made by another
// key, by its tag.
func TestTakeOfAnotherAskOrKey(t *testing.T) {
	w := watch(t, "key", 0)
	ask := w.asks(t, drawOf(1), 10, api.OK)
	w.refuses(t, answerOf("key", askOf(drawOf(2), 10), 20, 20), api.ErrForm)
	w.refuses(t, answerOf("key", askOf(drawOf(1), 11), 20, 20), api.ErrForm)
	w.refuses(t, answerOf("key", askOf(drawOf(1), 10^least), 20, 20), api.ErrForm)
	for _, key := range []string{"", "ke", "kez", "keys", "KEY", "yek"} {
		w.refuses(t, answerOf(key, ask, 20, 20), api.ErrMac)
	}
	w.takes(t, answerOf("key\x00", ask, 20, 20), 10, told(10, 0, 2), api.OK) // which mac takes for the same key
}

func TestTakeOfTheErrorNamedFirst(t *testing.T) {
	w := watch(t, "key", 0)
	w.refuses(t, "", api.ErrNone) // and it has no 56 bytes
	ask := w.asks(t, drawOf(1), 10, api.OK)
	other := answerOf("kez", askOf(drawOf(2), 10), 20, 10)
	w.refuses(t, other+"x", api.ErrSize)                   // and it is of another ask, by another key, and of moments that Round refuses
	w.refuses(t, other, api.ErrForm)                       // and by another key, and of such moments
	w.refuses(t, answerOf("kez", ask, 20, 10), api.ErrMac) // and of such moments
	w.takes(t, answerOf("key", ask, 20, 10), 10, none, api.ErrArg)
	w.refuses(t, other, api.ErrNone)
	w.asks(t, drawOf(1)[:15], 10, api.ErrSize)
	w.asks(t, drawOf(1), 10, api.ErrTwice)
}

// A right answer closes the ask, even one that tells no sample.
func TestTakeOfMomentsThatRoundRefuses(t *testing.T) {
	for _, c := range []struct {
		t1, t2, t3, t4 int64
		e              api.Errno
	}{
		{10, 20, 20, 9, api.ErrArg}, {10, 20, 19, 10, api.ErrArg}, {greatest, 0, 0, least, api.ErrArg},
		{least, 0, 0, 0, api.ErrOver}, {-half, half, half, -half, api.ErrOver}, {0, -1, greatest, 0, api.ErrOver},
		{0, -2, -2, greatest, api.ErrOver}, {10, 20, 21, 10, api.ErrRange}, {0, 0, greatest, 0, api.ErrRange},
	} {
		w := watch(t, "key", most)
		ask := w.asks(t, drawOf(1), c.t1, api.OK)
		answer := answerOf("key", ask, c.t2, c.t3)
		w.takes(t, answer, c.t4, none, c.e)
		w.refuses(t, answer, api.ErrNone)
		w.asks(t, drawOf(1), c.t1, api.ErrTwice)
		again := w.asks(t, drawOf(2), 10, api.OK)
		w.takes(t, answerOf("key", again, 20, 20), 10, told(10, 0, 2), api.OK)
	}
}

func TestTakeByEachKey(t *testing.T) {
	for _, n := range []int{1, 2, 31, 32, 63, 64, 65, 300} {
		key := strings.Repeat("k", n)
		w := watch(t, key, 0)
		ask := w.asks(t, drawOf(n), 10, api.OK)
		w.refuses(t, answerOf(key+"k", ask, 20, 20), api.ErrMac)
		w.refuses(t, answerOf(key[1:], ask, 20, 20), api.ErrMac)
		answer, e := volley.Answer(key, ask, 20, 20)
		if e != api.OK {
			t.Fatalf("%d", e)
		}
		w.takes(t, answer, 10, told(10, 0, 2), api.OK)
	}
}

// The rate is the one of New, and the moments are read by all their bytes, below 0, too.
func TestTakesSampleIsRounds(t *testing.T) {
	n := 0
	for _, rate := range []int64{0, 1, 5, most} {
		w := watch(t, "key", rate)
		for _, t1 := range ends() {
			for _, t2 := range ends() {
				for _, t4 := range ends() {
					n++
					ask := w.asks(t, drawOf(n), t1, api.OK)
					w.take(t, answerOf("key", ask, t2, max(t2, t4)), t4)
				}
			}
		}
	}
	w := watch(t, "key", 5)
	ask := w.asks(t, drawOf(0), 0, api.OK)
	w.takes(t, answerOf("key", ask, -7, 999999983), 1000000000, told(-12, 10, 17), api.OK)
}

// act moves a volley by one act or another.
func (w *watched) act(t *testing.T, draw func(below int) int) {
	t.Helper()
	ask := askOf(w.draw, w.asked)
	t2 := int64(draw(200))
	answer := answerOf(w.key, ask, t2, t2+int64(draw(20))-3)
	now := w.asked + int64(draw(30)) - 5
	switch draw(8) {
	case 0, 1, 2:
		w.ask(t, drawOf(draw(300)), int64(draw(200))-100)
	case 3:
		w.ask(t, drawOf(draw(300))[:draw(17)], 7)
	case 4, 5:
		w.take(t, answer, now)
	case 6:
		w.take(t, turned(answer, draw(len(answer)), draw(8)), now)
	default:
		w.take(t, answer[:draw(len(answer))], now)
	}
}

func TestLongRowsOfDrawnActs(t *testing.T) {
	draw := drawn(141)
	for n := range 30 {
		w := watch(t, "key"+drawOf(n), int64(draw(most+1)))
		for range 300 {
			w.act(t, draw)
		}
	}
}

func TestTwoVolleysMovedByTurns(t *testing.T) {
	one, two, three := watch(t, "key", 0), watch(t, "key", most), watch(t, "another", 0)
	draws := []func(below int) int{drawn(142), drawn(143), drawn(144)}
	for range 400 {
		for n, w := range []*watched{one, two, three} {
			w.act(t, draws[n])
			one.look(t, "another one's act")
			two.look(t, "another one's act")
			three.look(t, "another one's act")
		}
	}
}

// What one drew, another one may draw, too; an answer to the one's ask is none to the other's.
func TestTwoVolleysShareNothing(t *testing.T) {
	one, two := watch(t, "key", 0), watch(t, "key", 0)
	first := one.asks(t, drawOf(1), 10, api.OK)
	two.refuses(t, answerOf("key", first, 20, 20), api.ErrNone)
	second := two.asks(t, drawOf(2), 10, api.OK)
	two.refuses(t, answerOf("key", first, 20, 20), api.ErrForm)
	one.refuses(t, answerOf("key", second, 20, 20), api.ErrForm)
	two.asks(t, drawOf(1), 11, api.OK)
	two.refuses(t, answerOf("key", first, 20, 20), api.ErrForm)
	one.takes(t, answerOf("key", first, 20, 20), 10, told(10, 0, 2), api.OK)
	two.takes(t, answerOf("key", askOf(drawOf(1), 11), 20, 20), 11, told(9, 0, 2), api.OK)
}

func TestTheSameCallsAnswerTheSame(t *testing.T) {
	one, two := watch(t, "key", 7), watch(t, "key", 7)
	draw, again := drawn(145), drawn(145)
	for range 500 {
		one.act(t, draw)
		two.act(t, again)
		if one.open != two.open || one.draw != two.draw || one.asked != two.asked || len(one.drawn) != len(two.drawn) {
			t.Fatalf("%+v and %+v", one, two)
		}
	}
	for range 3 {
		round(t, 100, 160, 170, 131, 0)
		answers(t, "key", askOf(drawOf(1), 5), 1, 2)
	}
}

// P14.4

// within holds what is told of two samples, either way about, against numbers of any size, and tells it.
func within(t *testing.T, a, b volley.Sample) bool {
	t.Helper()
	low, high := less(of(a.Offset), of(a.Bound)), sum(of(a.Offset), of(a.Bound))
	if l := less(of(b.Offset), of(b.Bound)); l.Cmp(low) > 0 {
		low = l
	}
	if h := sum(of(b.Offset), of(b.Bound)); h.Cmp(high) < 0 {
		high = h
	}
	want := low.Cmp(high) <= 0 // else no number lies from the one to the other
	if got, about := volley.Within(a, b), volley.Within(b, a); got != want || about != want {
		t.Fatalf("Within(%+v, %+v): %t, turned about %t, want %t", a, b, got, about, want)
	}
	return want
}

// agree holds what is told of two samples of no Delay against what the test names.
func agree(t *testing.T, a, aBound, b, bBound int64, want bool) {
	t.Helper()
	if within(t, told(a, 0, aBound), told(b, 0, bBound)) != want {
		t.Fatalf("Within of %d, %d and %d, %d isn't %t", a, aBound, b, bBound, want)
	}
}

func TestWithinOfSamplesThatTouchOrMiss(t *testing.T) {
	agree(t, 5, 3, 10, 2, true)  // up to 8, and from 8
	agree(t, 5, 3, 11, 2, false) // up to 8, and from 9
	agree(t, 5, 3, 10, 1, false)
	agree(t, 5, 2, 10, 2, false)
	agree(t, 5, 3, 9, 2, true)
	agree(t, -5, 3, -10, 2, true)
	agree(t, -5, 3, -11, 2, false)
	agree(t, -5, 5, 5, 5, true)
	agree(t, -5, 5, 5, 4, false)
	agree(t, 0, 0, 0, 0, true)
	agree(t, 0, 0, 1, 0, false)
	agree(t, 0, 0, 1, 1, true)
}

func TestWithinOfEqualSamplesAndOfOnesWithinOthers(t *testing.T) {
	agree(t, 5, 3, 5, 3, true)
	agree(t, 5, 0, 5, 0, true)
	agree(t, 5, 100, 7, 1, true)
	agree(t, 5, 100, 5, 0, true)
	agree(t, 5, 1, 5, 100, true)
	for _, n := range ends() {
		agree(t, n, 0, n, 0, true)
		agree(t, n, greatest, n, greatest, true)
	}
}

func TestWithinAtTheEndsOf64Bits(t *testing.T) {
	agree(t, greatest, greatest, least, greatest, false) // from 0, and up to -1
	agree(t, greatest, greatest, least+1, greatest, true)
	agree(t, greatest-1, greatest, least, greatest, true)
	agree(t, greatest, greatest, 0, 0, true)
	agree(t, greatest, greatest, -1, 0, false)
	agree(t, greatest, greatest, greatest, 0, true)
	agree(t, least, greatest, -1, 0, true)
	agree(t, least, greatest, 0, 0, false)
	agree(t, least, 1, greatest, 1, false) // a number that wraps would touch here
	agree(t, least, 0, greatest, 0, false)
	agree(t, greatest, 1, greatest-2, 1, true)
	agree(t, greatest, 1, greatest-3, 1, false)
}

// Where a Bound is below 0, no number is within it.
func TestWithinOfBoundsBelowZero(t *testing.T) {
	agree(t, 0, -1, 0, 9, false)
	agree(t, 0, -1, 0, -1, false)
	agree(t, 0, -1, 0, greatest, false)
	agree(t, 5, -5, 9, 9, false)
	agree(t, 0, least, 0, least, false)
	agree(t, 0, least, 0, greatest, false)
	agree(t, least, least, greatest, greatest, false)
	agree(t, greatest, least, least, least, false)
}

func TestWithinAtAllEnds(t *testing.T) {
	for _, a := range ends() {
		for _, aBound := range ends() {
			for _, b := range ends() {
				for _, bBound := range ends() {
					within(t, told(a, 0, aBound), told(b, 0, bBound))
				}
			}
		}
	}
}

func TestWithinOfSmallAndDrawnSamples(t *testing.T) {
	for a := int64(-6); a <= 6; a++ {
		for aBound := int64(-2); aBound <= 5; aBound++ {
			for bBound := int64(-2); bBound <= 5; bBound++ {
				within(t, told(0, 0, aBound), told(a, 0, bBound))
			}
		}
	}
	draw := drawn(146)
	for range 20000 {
		within(t, told(number(draw), 0, number(draw)), told(number(draw), 0, number(draw)))
	}
}

// The Delay has no part in it.
func TestWithinWhateverTheDelay(t *testing.T) {
	for _, one := range ends() {
		for _, other := range ends() {
			within(t, told(5, one, 3), told(10, other, 2))
			within(t, told(5, one, 3), told(11, other, 2))
		}
	}
}

// P14.5

// clock makes a clock.
func clock(t *testing.T, at, shows, rate int64) drift.Clock {
	t.Helper()
	c, e := drift.New(at, shows, rate)
	if e != api.OK {
		t.Fatalf("New(%d, %d, %d): %d", at, shows, rate, e)
	}
	return c
}

// read reads a clock.
func read(t *testing.T, c drift.Clock, at int64) int64 {
	t.Helper()
	n, e := c.Read(at)
	if e != api.OK {
		t.Fatalf("%+v: Read(%d): %d", c, at, e)
	}
	return n
}

// holds asks at a true moment by what the client's clock shows then, and has the answer at another one by what the clock
// shows at that, and holds what the server's clock, which is right, is ahead then against the sample; it tells if there
// is one.
func holds(t *testing.T, asks, has drift.Clock, moments [4]int64, rate int64) bool {
	t.Helper()
	t1, t4 := read(t, asks, moments[0]), read(t, has, moments[3])
	s, e := round(t, t1, moments[1], moments[2], t4, rate)
	if e == api.ErrRange { // a clock that goes too slowly may show less than the server took
		return false
	}
	if e != api.OK {
		t.Fatalf("%+v, %+v, %v, %d: %d", asks, has, moments, rate, e)
	}
	ahead := less(of(moments[3]), of(t4))
	if off := less(ahead, of(s.Offset)); off.CmpAbs(of(s.Bound)) > 0 {
		t.Fatalf("%+v, %+v, %v, %d: %+v, and it is ahead by %v", asks, has, moments, rate, s, ahead)
	}
	return true
}

// A clock that goes wrong by as much as the rate lets it: too fast, too slowly, or first the one and then the other.
func TestTheOffsetHoldsForClocksThatGoWrong(t *testing.T) {
	draw := drawn(147)
	samples := 0
	for range 4000 {
		rate := []int64{0, 1, 1000, most / 2, most, int64(draw(most + 1))}[draw(6)]
		from := number(draw) >> 8
		there, took, back := int64(draw(1<<31))>>draw(31), int64(draw(1<<31))>>draw(31), int64(draw(1<<31))>>draw(31)
		asked := from + int64(draw(1000))
		moments := [4]int64{asked, asked + there, asked + there + took, asked + there + took + back}
		for _, by := range []int64{-rate, 0, rate} {
			c := clock(t, from, number(draw)>>8, by)
			turns := asked + int64(draw(int(moments[3]-asked+1)))
			turned, e := c.Turn(turns, -by)
			if e != api.OK {
				t.Fatalf("%d", e)
			}
			for _, has := range []drift.Clock{c, turned} {
				if holds(t, c, has, moments, rate) {
					samples++
				}
			}
		}
	}
	if samples < 10000 {
		t.Fatalf("only %d samples", samples)
	}
}

// All of the Delay on one way, by the fastest and the slowest clock: the Offset is as far off as it may be.
func TestTheOffsetHoldsWhereOneWayTakesAll(t *testing.T) {
	for _, rate := range []int64{0, 1, 1000, most} {
		for _, by := range []int64{-rate, rate} {
			for _, way := range []int64{0, 1, 2, 3, 9, 10, 11, 1000, 1 << 32, 1<<32 + 1, 1 << 50, half / 2} {
				c := clock(t, 7, -100, by)
				if !holds(t, c, c, [4]int64{7, 7, 7, 7 + way}, rate) || !holds(t, c, c, [4]int64{7, 7 + way, 7 + way, 7 + way}, rate) {
					t.Fatalf("%d, %d, %d: no sample", rate, by, way)
				}
			}
		}
	}
}

// By no less than Bound says may the Offset be off: here it is off by all but 2 of that.
func TestTheOffsetIsOffByNearlyTheBound(t *testing.T) {
	s, e := round(t, 0, 0, 0, 1000, 0)
	if e != api.OK || 0-s.Offset != s.Bound-2 {
		t.Fatalf("%+v, %d", s, e)
	}
}

// Samples of one server whose clock is right, and of a client's that is, too, have what it is ahead in common.
func TestSamplesOfRightClocksAreWithinEachOther(t *testing.T) {
	draw := drawn(148)
	for range 2000 {
		ahead := number(draw) >> 3
		var l [2]volley.Sample
		for n := range l {
			asked := number(draw) >> 3
			there, took, back := int64(draw(1000)), int64(draw(1000)), int64(draw(1000))
			came := asked + ahead + there
			s, e := round(t, asked, came, came+took, asked+there+took+back, int64(draw(most)))
			if e != api.OK {
				t.Fatalf("%d", e)
			}
			l[n] = s
		}
		if !within(t, l[0], l[1]) {
			t.Fatalf("%+v", l)
		}
	}
}
