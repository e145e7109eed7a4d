package pebble_test

import (
	"crypto/hmac"
	"crypto/sha256"
	"math"
	"testing"

	"timeball/api"
	"timeball/chain"
	"timeball/pebble"
)

// keysOf tells all keys of a chain by the library, the key 0 first.
func keysOf(seed api.Key, n int) []api.Key {
	told := make([]api.Key, n+1)
	h := hmac.New(sha256.New, seed[:])
	h.Write([]byte("chain"))
	told[n] = api.Key(h.Sum(nil))
	for i := n - 1; i >= 0; i-- {
		told[i] = sha256.Sum256(told[i+1][:])
	}
	return told
}

// seeds are unlike keys, some of them by one bit only.
func seeds() []api.Key {
	told := []api.Key{{}, {7, 8, 9}, {7, 8, 9, 31: 128}, {31: 1}}
	var full, counting api.Key
	for i := range full {
		full[i] = 255
		counting[i] = byte(i)
	}
	return append(told, full, counting)
}

// aboutPowers are lengths at, one below and one above powers of 2.
var aboutPowers = []int{1, 2, 3, 4, 5, 7, 8, 9, 15, 16, 17, 31, 32, 33, 63, 64, 65, 127, 128, 129, 255, 256, 257, 511, 512, 513, 1023, 1024}

// may tells how many keys a walker may mind, as the chapter's words say it.
func may(n int) int {
	power, b := 1, 0
	for power < n+1 {
		power *= 2
		b++
	}
	return b + 2
}

// watched is a walker, and what it must tell.
type watched struct {
	*pebble.Walker
	keys []api.Key
	at   int
}

// watch makes a walker that is watched.
func watch(t *testing.T, seed api.Key, n int) *watched {
	t.Helper()
	w, e := pebble.New(seed, n)
	if w == nil || e != api.OK {
		t.Fatalf("New of %x, %d: %v, %d", seed[:4], n, w, e)
	}
	made := &watched{Walker: w, keys: keysOf(seed, n)}
	made.look(t, "New")
	return made
}

// length tells the chain's length.
func (w *watched) length() int { return len(w.keys) - 1 }

// look holds At, Left and Minds against what they must tell.
func (w *watched) look(t *testing.T, behind string) {
	t.Helper()
	at, left, minds := w.At(), w.Left(), w.Minds()
	if at != w.at || left != len(w.keys)-w.at {
		t.Errorf("of %d, behind %s: At %d, Left %d, want %d, %d", w.length(), behind, at, left, w.at, len(w.keys)-w.at)
	}
	if minds < 0 || minds > may(w.length()) {
		t.Errorf("of %d, behind %s, at %d: it minds %d, and may %d", w.length(), behind, w.at, minds, may(w.length()))
	}
	if w.at == len(w.keys) && minds != 0 {
		t.Errorf("of %d, behind the last key: it minds %d", w.length(), minds)
	}
}

// next asks for the next key, and holds it against what must be told.
func (w *watched) next(t *testing.T) {
	t.Helper()
	want, e, minds := api.Key{}, api.ErrNone, w.Minds()
	if w.at < len(w.keys) {
		want, e = w.keys[w.at], api.OK
		w.at++
	}
	if k, got := w.Next(); k != want || got != e {
		t.Errorf("of %d, Next behind %d keys: %x, %d, want %x, %d", w.length(), w.at, k[:4], got, want[:4], e)
	}
	if e != api.OK && w.Minds() != minds {
		t.Errorf("of %d, Next behind the last key: it minds %d, and %d ahead of it", w.length(), w.Minds(), minds)
	}
	w.look(t, "Next")
}

// skip goes on to a key, and holds what it answers against what it must.
func (w *watched) skip(t *testing.T, to int) {
	t.Helper()
	e, minds := api.ErrArg, w.Minds()
	if to >= w.at && to < len(w.keys) {
		e, w.at = api.OK, to
	}
	if got := w.Skip(to); got != e {
		t.Errorf("of %d, Skip to %d at %d: %d, want %d", w.length(), to, w.at, got, e)
	}
	if e != api.OK && w.Minds() != minds {
		t.Errorf("of %d, Skip to %d is refused: it minds %d, and %d ahead of it", w.length(), to, w.Minds(), minds)
	}
	w.look(t, "Skip")
}

// rest asks for all keys that are left, and for three behind them.
func (w *watched) rest(t *testing.T) {
	t.Helper()
	for range w.Left() + 3 {
		w.next(t)
	}
	if w.at != len(w.keys) {
		t.Errorf("of %d, behind the last key: at %d", w.length(), w.at)
	}
}

// aboutPlaces tells places at and about where a walker is, the ends of its chain and those of int.
func (w *watched) aboutPlaces() []int {
	n := w.length()
	return []int{w.at - 1, w.at, w.at + 1, n - 1, n, n + 1, n + 2, -1, 0, math.MinInt, math.MinInt + 1, math.MaxInt - 1, math.MaxInt}
}

// P9.1: New, Next, At, Left

func TestNewOfLengths(t *testing.T) {
	for _, seed := range seeds() {
		for _, n := range []int{math.MinInt, math.MinInt + 1, -1024, -1, 0, 1025, 1026, 2048, 4096, 1 << 32, 1<<32 + 1, math.MaxInt - 1, math.MaxInt} {
			if w, e := pebble.New(seed, n); w != nil || e != api.ErrArg {
				t.Errorf("New of %x, %d: %v, %d", seed[:4], n, w, e)
			}
		}
		for _, n := range []int{1, 2, 3, 1023, 1024} {
			w := watch(t, seed, n)
			if w.At() != 0 || w.Left() != n+1 || w.Minds() < 1 {
				t.Errorf("New of %x, %d: At %d, Left %d, Minds %d", seed[:4], n, w.At(), w.Left(), w.Minds())
			}
			w.next(t)
		}
	}
}

func TestExample(t *testing.T) {
	for _, seed := range seeds() {
		keys := keysOf(seed, 2)
		w, _ := pebble.New(seed, 2)
		for i, want := range keys {
			if k, e := w.Next(); k != want || e != api.OK {
				t.Errorf("the key %d: %x, %d, want %x", i, k[:4], e, want[:4])
			}
		}
		for range 3 {
			if k, e := w.Next(); k != (api.Key{}) || e != api.ErrNone {
				t.Errorf("behind the last key: %x, %d", k[:4], e)
			}
		}
	}
}

func TestNextOfLengthsAboutPowers(t *testing.T) {
	for _, n := range aboutPowers {
		watch(t, api.Key{1, 2, 3}, n).rest(t)
	}
}

func TestNextOfUnlikeSeeds(t *testing.T) {
	seen := map[api.Key]bool{}
	for _, seed := range seeds() {
		for _, n := range []int{1, 6, 100} {
			watch(t, seed, n).rest(t)
		}
		w, _ := pebble.New(seed, 10)
		for range 11 {
			k, _ := w.Next()
			if seen[k] {
				t.Errorf("of %x: %x is another one's key too", seed[:4], k[:4])
			}
			seen[k] = true
		}
	}
}

func TestBehindTheLastKey(t *testing.T) {
	for _, n := range []int{1, 2, 3, 8, 1024} {
		w := watch(t, api.Key{4}, n)
		w.skip(t, n)
		w.next(t)
		for range 50 {
			if k, e := w.Next(); k != (api.Key{}) || e != api.ErrNone || w.At() != n+1 || w.Left() != 0 || w.Minds() != 0 {
				t.Errorf("of %d: %x, %d, At %d, Left %d, Minds %d", n, k[:4], e, w.At(), w.Left(), w.Minds())
			}
		}
	}
}

// P9.2: Skip, Minds

func TestMindsAtTheBeginningOfAllLengths(t *testing.T) {
	for n := 1; n <= 1024; n++ {
		w := watch(t, api.Key{byte(n), byte(n >> 8)}, n)
		for range 3 {
			w.next(t)
		}
	}
}

func TestMindsAllTheWay(t *testing.T) {
	for n := 1; n <= 130; n++ {
		watch(t, api.Key{9}, n).rest(t)
	}
	for n := 131; n <= 1024; n += 89 {
		watch(t, api.Key{9}, n).rest(t)
	}
}

func TestMindsOfShortChains(t *testing.T) {
	for n, most := range map[int]int{1: 3, 2: 4, 3: 4, 4: 5, 7: 5, 8: 6, 15: 6, 16: 7, 1023: 12, 1024: 13} {
		if may(n) != most {
			t.Errorf("of %d, it may mind %d, not %d", n, most, may(n))
		}
	}
}

// placed tells a walker that was moved to a place in one of two ways.
func placed(t *testing.T, n, place int, atOnce bool) *watched {
	t.Helper()
	w := watch(t, api.Key{5, 6}, n)
	if atOnce && place <= n {
		w.skip(t, place)
	}
	for w.at < place {
		w.next(t)
	}
	return w
}

func TestSkipFromAllPlaces(t *testing.T) {
	const n = 20
	for place := range n + 2 {
		for to := -2; to <= n+3; to++ {
			for _, atOnce := range []bool{false, true} {
				w := placed(t, n, place, atOnce)
				w.skip(t, to)
				w.rest(t)
			}
		}
	}
}

func TestSkipAboutEnds(t *testing.T) {
	for _, n := range []int{1, 2, 3, 16, 17, 100, 1023, 1024} {
		for _, place := range []int{0, 1, n / 2, n - 1, n, n + 1} {
			for _, to := range placed(t, n, place, true).aboutPlaces() {
				w := placed(t, n, place, true)
				w.skip(t, to)
				w.next(t)
				w.next(t)
			}
		}
	}
}

func TestSkipsThatAreRefusedChangeNothing(t *testing.T) {
	for _, n := range []int{1, 2, 9, 64, 100} {
		w := watch(t, api.Key{8}, n)
		for range n + 2 {
			at, minds := w.At(), w.Minds()
			for _, to := range w.aboutPlaces() {
				if to >= at && to <= n {
					continue
				}
				if e := w.Skip(to); e != api.ErrArg || w.At() != at || w.Left() != n+1-at || w.Minds() != minds {
					t.Errorf("of %d, Skip to %d at %d: %d, At %d, Left %d, Minds %d", n, to, at, e, w.At(), w.Left(), w.Minds())
				}
			}
			w.next(t)
		}
	}
}

func TestSkipsInARow(t *testing.T) {
	w := watch(t, api.Key{3}, 1000)
	for _, to := range []int{0, 0, 1, 5, 4, 5, 5, 300, 299, 301, 1001, 302, 700, -1, 990, 999, 998, 1000, 1000, 999, 1001} {
		w.skip(t, to)
	}
	w.rest(t)
	one := watch(t, api.Key{3}, 40)
	for to := range 41 {
		one.skip(t, to)
	}
	one.rest(t)
}

func TestSkipBehindTheLastKey(t *testing.T) {
	for _, n := range []int{1, 2, 30} {
		w := watch(t, api.Key{3}, n)
		w.rest(t)
		for to := -2; to <= n+3; to++ {
			w.skip(t, to)
			w.next(t)
		}
	}
}

func TestSkipToTheLastKey(t *testing.T) {
	for _, n := range aboutPowers {
		for _, place := range []int{0, 1, n / 3, n} {
			w := placed(t, n, place, true)
			w.skip(t, n)
			if w.Left() != 1 || w.Minds() < 1 {
				t.Errorf("of %d, at the last key: Left %d, Minds %d", n, w.Left(), w.Minds())
			}
			w.rest(t)
		}
	}
}

// TestNextAndSkipInAllWays goes through a short chain, at each key asking for it or leaving it out.
func TestNextAndSkipInAllWays(t *testing.T) {
	for _, n := range []int{1, 4, 7, 8} {
		for heard := range 1 << (n + 1) {
			w := watch(t, api.Key{1, 1}, n)
			for i := range n + 1 {
				if heard>>i&1 == 1 {
					w.skip(t, i)
					w.next(t)
				}
			}
		}
	}
}

// drawn tells numbers that follow no plain rule, the same ones each time.
func drawn(count int) []int {
	told, n := make([]int, count), uint64(88172645463325252)
	for i := range told {
		n ^= n << 13
		n ^= n >> 7
		n ^= n << 17
		told[i] = int(n >> 33)
	}
	return told
}

func TestNextAndSkipByTurns(t *testing.T) {
	for round, n := range drawn(60) {
		w := watch(t, api.Key{byte(round)}, n%1024+1)
		for _, d := range drawn(200) {
			d += round * 7919
			switch {
			case d%5 == 0:
				w.skip(t, w.at+d/5%(w.length()/8+2))
			case d%5 == 1:
				w.skip(t, d/5%(w.length()+3)-1)
			default:
				w.next(t)
			}
		}
	}
}

// P9.3: what follows

func TestKeysAreThoseThatChainTells(t *testing.T) {
	for _, seed := range seeds() {
		for _, n := range []int{1, 2, 10, 65} {
			w, _ := pebble.New(seed, n)
			for i := range n + 1 {
				want, _ := chain.Key(seed, n, i)
				if k, e := w.Next(); k != want || e != api.OK {
					t.Errorf("of %x, %d, the key %d: %x, %d, want %x", seed[:4], n, i, k[:4], e, want[:4])
				}
			}
		}
	}
}

func TestKeysAreLearntOneByOne(t *testing.T) {
	w, _ := pebble.New(api.Key{2, 3}, 1024)
	known, _ := w.Next()
	mind := chain.Mind{Known: known}
	for w.Left() > 0 {
		i := w.At()
		k, _ := w.Next()
		next, e := mind.Learn(k, i, 1)
		if e != api.OK {
			t.Fatalf("the key %d isn't learnt: %d", i, e)
		}
		mind = next
	}
	if mind.At != 1024 {
		t.Errorf("the last key is %d", mind.At)
	}
}

func TestWalkersByTurns(t *testing.T) {
	walkers := []*watched{
		watch(t, api.Key{1}, 70), watch(t, api.Key{1}, 70), watch(t, api.Key{1}, 71), watch(t, api.Key{2}, 70), watch(t, api.Key{}, 3),
	}
	for i := range 80 {
		for j, w := range walkers {
			if j == 1 && i%3 == 0 { // of the same chain as the first one, but ahead of it
				w.skip(t, w.at+2)
			}
			w.next(t)
		}
	}
	for _, w := range walkers {
		w.rest(t)
	}
}

// A walker that is copied goes on in two ways.
func TestCopiesByTurns(t *testing.T) {
	for _, n := range []int{1, 2, 7, 16, 100} {
		for place := range n + 2 {
			w := placed(t, n, place, false)
			twin := *w.Walker
			other := &watched{Walker: &twin, keys: w.keys, at: w.at}
			other.skip(t, w.at+(n-w.at)/2)
			for range n + 2 {
				other.next(t)
				w.next(t)
			}
		}
	}
}

// R4 and R5: the same calls answer the same, whatever was asked between.
func TestAskedAgain(t *testing.T) {
	for range 3 {
		for _, n := range []int{5, 0, 33, 1025, 5} {
			w, e := pebble.New(api.Key{6}, n)
			if e != api.OK {
				continue
			}
			for i, want := range keysOf(api.Key{6}, n) {
				if k, e := w.Next(); k != want || e != api.OK {
					t.Errorf("of %d, the key %d: %x, %d", n, i, k[:4], e)
				}
			}
		}
	}
}
