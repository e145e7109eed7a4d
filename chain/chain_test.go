package chain_test

import (
	"crypto/hmac"
	"crypto/sha256"
	"math"
	"testing"

	"timeball/api"
	"timeball/chain"
)

// named tells the key of a name that the library tells.
func named(k api.Key, name string) api.Key {
	h := hmac.New(sha256.New, k[:])
	h.Write([]byte(name))
	return api.Key(h.Sum(nil))
}

// keysOf tells all keys of a chain by the library, the key 0 first.
func keysOf(seed api.Key, n int) []api.Key {
	told := make([]api.Key, n+1)
	told[n] = named(seed, "chain")
	for i := n - 1; i >= 0; i-- {
		told[i] = sha256.Sum256(told[i+1][:])
	}
	return told
}

// walked tells the key so many digests on, by the library.
func walked(k api.Key, steps int) api.Key {
	for range steps {
		k = sha256.Sum256(k[:])
	}
	return k
}

// turned tells a key with one bit turned.
func turned(k api.Key, bit int) api.Key {
	k[bit/8] ^= 1 << (bit % 8)
	return k
}

// seeds are unlike keys, some of them by one bit only.
func seeds() []api.Key {
	told := []api.Key{{}, {7, 8, 9}, turned(api.Key{7, 8, 9}, 255), {31: 1}}
	var full, counting api.Key
	for i := range full {
		full[i] = 255
		counting[i] = byte(i)
	}
	return append(told, full, counting)
}

// lengths are what a chain's length may and may not be.
var lengths = []int{math.MinInt, -1024, -1, 0, 1, 2, 3, 5, 100, 1023, 1024, 1025, 2048, 4096, math.MaxInt - 1, math.MaxInt}

// isLength tells whether there is a chain of that length.
func isLength(n int) bool { return n >= 1 && n <= 1024 }

// about tells numbers at and about the ends from 0 to n, and those of int.
func about(n int) []int {
	told := []int{math.MinInt, math.MinInt + 1, -1024, -1, 0, 1, 2, n / 2, math.MaxInt - 1, math.MaxInt}
	if n > math.MinInt && n < math.MaxInt {
		told = append(told, n-1, n, n+1)
	}
	return told
}

// P8.1: Key, Known, Tagger, Next

func TestKeyOfAllLengths(t *testing.T) {
	for _, seed := range seeds() {
		for _, n := range lengths {
			var keys []api.Key
			if isLength(n) {
				keys = keysOf(seed, n)
			}
			for _, i := range about(n) {
				want, e := api.Key{}, api.ErrArg
				if i >= 0 && i < len(keys) {
					want, e = keys[i], api.OK
				}
				if k, got := chain.Key(seed, n, i); k != want || got != e {
					t.Errorf("Key of %x, %d, %d: %x, %d, want %x, %d", seed[:4], n, i, k[:4], got, want[:4], e)
				}
			}
		}
	}
}

func TestKeyOfAllPlaces(t *testing.T) {
	for _, n := range []int{1, 2, 7, 64, 300} {
		keys := keysOf(api.Key{1, 2, 3}, n)
		for i, want := range keys {
			if k, e := chain.Key(api.Key{1, 2, 3}, n, i); k != want || e != api.OK {
				t.Errorf("Key of %d, %d: %x, %d, want %x", n, i, k[:4], e, want[:4])
			}
		}
	}
}

func TestKeyIsDigestOfNextOne(t *testing.T) {
	for _, n := range []int{1, 2, 50, 1024} {
		behind, _ := chain.Key(api.Key{5}, n, n)
		for i := n - 1; i >= max(0, n-60); i-- {
			k, e := chain.Key(api.Key{5}, n, i)
			if e != api.OK || k != sha256.Sum256(behind[:]) {
				t.Errorf("Key of %d, %d: %x, %d, not the digest of the next one", n, i, k[:4], e)
			}
			behind = k
		}
	}
}

func TestKeysOfUnlikeSeeds(t *testing.T) {
	seen := map[api.Key]bool{}
	for _, seed := range seeds() {
		for i := range 6 {
			k, _ := chain.Key(seed, 5, i)
			if seen[k] || k == (api.Key{}) {
				t.Errorf("Key of %x, 5, %d: %x is another one's key too", seed[:4], i, k[:4])
			}
			seen[k] = true
		}
	}
}

func TestKnownOfAllLengths(t *testing.T) {
	for _, seed := range seeds() {
		for _, n := range lengths {
			want, e := api.Key{}, api.ErrArg
			if isLength(n) {
				want, e = keysOf(seed, n)[0], api.OK
			}
			if k, got := chain.Known(seed, n); k != want || got != e {
				t.Errorf("Known of %x, %d: %x, %d, want %x, %d", seed[:4], n, k[:4], got, want[:4], e)
			}
		}
	}
}

func TestTaggerAndNext(t *testing.T) {
	seen := map[api.Key]bool{}
	for _, k := range append(seeds(), keysOf(api.Key{1}, 20)...) {
		tagger, next := chain.Tagger(k), chain.Next(k)
		if want := named(k, "tag"); tagger != want {
			t.Errorf("Tagger of %x: %x, want %x", k[:4], tagger[:4], want[:4])
		}
		if want := named(k, "seed"); next != want {
			t.Errorf("Next of %x: %x, want %x", k[:4], next[:4], want[:4])
		}
		if seen[tagger] || seen[next] || tagger == next {
			t.Errorf("of %x: a key that is another one's too", k[:4])
		}
		seen[tagger], seen[next] = true, true
	}
}

// P8.2: Check

// check is one call of Check.
type check struct {
	known api.Key
	at    int
	k     api.Key
	i     int
	most  int
}

// asked tells what Check must tell of it, by the library; the errors in the order in which they are named.
func (c check) asked() api.Errno {
	if c.at < 0 || c.i < 0 || !(c.i > c.at) {
		return api.ErrArg
	}
	if distance := c.i - c.at; distance > c.most || distance > 1024 {
		return api.ErrFar
	}
	if walked(c.k, c.i-c.at) != c.known {
		return api.ErrKey
	}
	return api.OK
}

// hold holds Check, and Learn of the mind of the same, against what they must tell.
func (c check) hold(t *testing.T, want api.Errno) {
	t.Helper()
	if got := chain.Check(c.known, c.at, c.k, c.i, c.most); got != want {
		t.Errorf("Check of %x, %d, %x, %d, %d: %d, want %d", c.known[:4], c.at, c.k[:4], c.i, c.most, got, want)
	}
	m := chain.Mind{Known: c.known, At: c.at}
	learnt := chain.Mind{}
	if want == api.OK {
		learnt = chain.Mind{Known: c.k, At: c.i}
	}
	if got, e := m.Learn(c.k, c.i, c.most); got != learnt || e != want {
		t.Errorf("Learn of %x, %d by %x, %d, %d: %x, %d, %d, want %d", c.known[:4], c.at, c.k[:4], c.i, c.most, got.Known[:4], got.At, e, want)
	}
	if m != (chain.Mind{Known: c.known, At: c.at}) {
		t.Errorf("Learn of %x, %d: the mind is changed", c.known[:4], c.at)
	}
}

func TestCheckOfExamples(t *testing.T) {
	keys := keysOf(api.Key{7, 8, 9}, 20)
	check{keys[3], 3, keys[5], 5, 4}.hold(t, api.OK)
	check{keys[3], 3, keys[9], 9, 4}.hold(t, api.ErrFar)
}

func TestCheckOfAllPlaces(t *testing.T) {
	keys := keysOf(api.Key{7, 8, 9}, 12)
	for at := range keys {
		for i := range keys {
			for most := -1; most <= 14; most++ {
				want := api.OK
				switch {
				case i <= at:
					want = api.ErrArg
				case i-at > most:
					want = api.ErrFar
				}
				check{keys[at], at, keys[i], i, most}.hold(t, want)
			}
		}
	}
}

func TestCheckOfPlacesThatAreWrong(t *testing.T) {
	keys := keysOf(api.Key{7, 8, 9}, 12)
	ends := []int{math.MinInt, math.MinInt + 1, -2, -1, 0, 1, 2, 3, math.MaxInt - 1025, math.MaxInt - 1024, math.MaxInt - 1, math.MaxInt}
	for _, at := range ends {
		for _, i := range ends {
			for _, most := range append(ends, 1023, 1024, 1025) {
				for _, k := range []api.Key{keys[0], keys[1], keys[2], keys[3], {}} {
					c := check{keys[1], at, k, i, most}
					c.hold(t, c.asked())
				}
			}
		}
	}
}

func TestCheckOfDistances(t *testing.T) {
	keys := keysOf(api.Key{4, 5}, 1030)
	for _, at := range []int{0, 1, 5} {
		for _, distance := range []int{1, 2, 3, 10, 1022, 1023, 1024, 1025} {
			for _, most := range []int{math.MinInt, -1, 0, 1, distance - 1, distance, distance + 1, 1023, 1024, 1025, 5000, math.MaxInt} {
				want := api.OK
				if distance > most || distance > 1024 {
					want = api.ErrFar
				}
				check{keys[at], at, keys[at+distance], at + distance, most}.hold(t, want)
			}
		}
	}
}

func TestCheckNearTheEndOfInt(t *testing.T) {
	k := api.Key{9}
	for _, distance := range []int{1, 2, 1024} {
		at := math.MaxInt - distance
		check{walked(k, distance), at, k, math.MaxInt, distance}.hold(t, api.OK)
		check{walked(k, distance), at, k, math.MaxInt, distance - 1}.hold(t, api.ErrFar)
		check{walked(k, distance), at, walked(k, 1), math.MaxInt, distance}.hold(t, api.ErrKey)
	}
	check{walked(k, 1025), math.MaxInt - 1025, k, math.MaxInt, math.MaxInt}.hold(t, api.ErrFar)
	check{k, 0, k, math.MaxInt, math.MaxInt}.hold(t, api.ErrFar)
	check{k, math.MinInt, k, math.MaxInt, math.MaxInt}.hold(t, api.ErrArg)
	check{k, math.MinInt, k, math.MinInt, math.MaxInt}.hold(t, api.ErrArg)
	check{k, math.MaxInt, k, math.MaxInt, math.MaxInt}.hold(t, api.ErrArg)
	check{k, math.MaxInt, k, math.MinInt, math.MaxInt}.hold(t, api.ErrArg)
}

func TestCheckOfKeysThatAreWrong(t *testing.T) {
	keys := keysOf(api.Key{7, 8, 9}, 1024)
	for _, at := range []int{0, 1, 500} {
		for _, i := range []int{at + 1, at + 2, at + 30, 1023} {
			for _, k := range []api.Key{keys[i-1], keys[i+1], keys[at], {}, named(keys[i], "tag"), named(api.Key{}, "chain")} {
				check{keys[at], at, k, i, 2000}.hold(t, api.ErrKey)
			}
			check{keys[at], at, keys[i], i, 2000}.hold(t, api.OK)
		}
	}
	for bit := range 256 {
		check{keys[3], 3, turned(keys[5], bit), 5, 4}.hold(t, api.ErrKey)
		check{turned(keys[3], bit), 3, keys[5], 5, 4}.hold(t, api.ErrKey)
	}
}

func TestCheckIsOfDistanceAlone(t *testing.T) {
	k := api.Key{1, 2, 3}
	for _, at := range []int{0, 1, 1000, 1023, 1024, 1025, 4096, 1 << 40} {
		for _, distance := range []int{1, 5, 1024} {
			check{walked(k, distance), at, k, at + distance, 1024}.hold(t, api.OK)
		}
	}
}

func TestCheckOfTwoErrors(t *testing.T) {
	keys := keysOf(api.Key{7, 8, 9}, 12)
	wrong := api.Key{1}
	check{keys[3], 3, wrong, 8, 4}.hold(t, api.ErrFar)
	check{keys[3], 3, wrong, 3 + 1025, 5000}.hold(t, api.ErrFar)
	check{keys[3], 3, wrong, 4, 0}.hold(t, api.ErrFar)
	check{keys[3], 3, wrong, 4, -1}.hold(t, api.ErrFar)
	check{keys[3], 3, wrong, 3, -1}.hold(t, api.ErrArg)
	check{keys[3], 3, wrong, 2, -5}.hold(t, api.ErrArg)
	check{keys[3], 3, keys[3], 3, 0}.hold(t, api.ErrArg)
	check{keys[3], -1, wrong, 5000, 4}.hold(t, api.ErrArg)
	check{keys[3], -1, keys[4], 0, 0}.hold(t, api.ErrArg)
	check{keys[3], -5, keys[4], -4, 9}.hold(t, api.ErrArg)
}

// P8.3: minds

func TestMindsHeldAgainstEachOther(t *testing.T) {
	keys := keysOf(api.Key{7, 8, 9}, 12)
	m, _ := chain.Mind{Known: keys[0]}.Learn(keys[6], 6, 12)
	step, _ := chain.Mind{Known: keys[0]}.Learn(keys[2], 2, 12)
	again, _ := step.Learn(keys[6], 6, 12)
	if m != again {
		t.Error("minds that were led to the same key by unlike ways are unlike")
	}
	for _, other := range []chain.Mind{{}, {Known: keys[6]}, {At: 6}, {Known: keys[6], At: 7}, {Known: keys[7], At: 6}, {Known: turned(keys[6], 200), At: 6}, step} {
		if m == other {
			t.Errorf("a mind of the key 6 is like %x, %d", other.Known[:4], other.At)
		}
	}
	if seen := map[chain.Mind]int{m: 1}; seen[again] != 1 || seen[step] != 0 {
		t.Error("minds do not find themselves in a map")
	}
}

func TestLearnOfZeroMind(t *testing.T) {
	var zero chain.Mind
	k := api.Key{3}
	for _, i := range []int{-1, 0} {
		if m, e := zero.Learn(k, i, 5); m != zero || e != api.ErrArg {
			t.Errorf("Learn of %d: %v, %d", i, m, e)
		}
	}
	if m, e := zero.Learn(k, 1, 5); m != zero || e != api.ErrKey {
		t.Errorf("Learn of 1: %v, %d", m, e)
	}
	if m, e := zero.Learn(k, 6, 5); m != zero || e != api.ErrFar {
		t.Errorf("Learn of 6: %v, %d", m, e)
	}
}

func TestTellOfAllPlaces(t *testing.T) {
	for _, n := range []int{0, 1, 2, 6, 40, 1024} {
		keys := keysOf(api.Key{2, 2}, max(n, 1))
		m := chain.Mind{Known: keys[n], At: n}
		for i := -3; i <= n+3; i++ {
			want, e := api.Key{}, api.ErrArg
			if i >= 0 && i <= n {
				want, e = keys[i], api.OK
			}
			if k, got := m.Tell(i); k != want || got != e {
				t.Errorf("Tell of %d, asked of %d: %x, %d, want %x, %d", i, n, k[:4], got, want[:4], e)
			}
		}
		if m != (chain.Mind{Known: keys[n], At: n}) {
			t.Errorf("Tell of %d: the mind is changed", n)
		}
	}
}

func TestTellAboutEndsOfInt(t *testing.T) {
	k := api.Key{8, 8}
	for _, at := range []int{math.MinInt, math.MinInt + 1, -4097, -1, 0, 1, 4095, 4096, 4097, 5000, math.MaxInt - 1, math.MaxInt} {
		for _, i := range about(at) {
			want, e := api.Key{}, api.ErrArg
			if i >= 0 && i <= at {
				want, e = walked(k, min(at-i, 4096)), api.OK // as far as sha.Walk goes
			}
			if got, no := (chain.Mind{Known: k, At: at}).Tell(i); got != want || no != e {
				t.Errorf("Tell of %d, asked of %d: %x, %d, want %x, %d", i, at, got[:4], no, want[:4], e)
			}
		}
	}
}

func TestTellOfZeroMind(t *testing.T) {
	for _, i := range []int{math.MinInt, -1, 0, 1, math.MaxInt} {
		e := api.ErrArg
		if i == 0 {
			e = api.OK
		}
		if k, got := (chain.Mind{}).Tell(i); k != (api.Key{}) || got != e {
			t.Errorf("Tell of %d: %x, %d, want %d", i, k[:4], got, e)
		}
	}
}

// P8.4: what follows

// tellsAll holds all keys that a mind tells against those of its chain.
func tellsAll(t *testing.T, m chain.Mind, keys []api.Key) {
	t.Helper()
	for i := range m.At + 1 {
		if k, e := m.Tell(i); k != keys[i] || e != api.OK {
			t.Errorf("a mind of %d tells %d: %x, %d, want %x", m.At, i, k[:4], e, keys[i][:4])
		}
	}
}

func TestEachKeyIsLearntAtOnce(t *testing.T) {
	for _, n := range []int{1, 2, 33, 1024} {
		keys := keysOf(api.Key{6, 7}, n)
		known, _ := chain.Known(api.Key{6, 7}, n)
		for i := 1; i <= n; i += 1 + n/40 {
			k, _ := chain.Key(api.Key{6, 7}, n, i)
			m, e := chain.Mind{Known: known}.Learn(k, i, n)
			if e != api.OK || m != (chain.Mind{Known: keys[i], At: i}) {
				t.Errorf("of %d keys, the key %d isn't learnt at once: %d", n, i, e)
			}
		}
		m, e := chain.Mind{Known: known}.Learn(keys[n], n, n)
		if e != api.OK {
			t.Fatalf("of %d keys, the last one isn't learnt: %d", n, e)
		}
		tellsAll(t, chain.Mind{Known: m.Known, At: m.At}, keys)
	}
}

func TestEachKeyIsLearntStepByStep(t *testing.T) {
	const n = 60
	keys := keysOf(api.Key{6, 7}, n)
	m := chain.Mind{Known: keys[0]}
	for i := 1; i <= n; i++ {
		next, e := m.Learn(keys[i], i, 1)
		if e != api.OK || next != (chain.Mind{Known: keys[i], At: i}) {
			t.Fatalf("the key %d isn't learnt: %d", i, e)
		}
		tellsAll(t, next, keys)
		m = next
	}
}

// TestKeysAreMissed leaves out any of a chain's keys, in all ways in which that can be done.
func TestKeysAreMissed(t *testing.T) {
	const n = 9
	keys := keysOf(api.Key{1, 1, 1}, n)
	for heard := range 1 << n {
		m := chain.Mind{Known: keys[0]}
		for i := 1; i <= n; i++ {
			if heard>>(i-1)&1 == 0 {
				continue
			}
			next, e := m.Learn(keys[i], i, n)
			if e != api.OK {
				t.Fatalf("of those heard, %b, the key %d isn't learnt: %d", heard, i, e)
			}
			m = next
		}
		tellsAll(t, m, keys)
	}
}

func TestKeyIsNotLearntTwice(t *testing.T) {
	keys := keysOf(api.Key{1, 1, 1}, 9)
	m := chain.Mind{Known: keys[4], At: 4}
	for i := range 5 {
		if got, e := m.Learn(keys[i], i, 9); got != (chain.Mind{}) || e != api.ErrArg {
			t.Errorf("the key %d: %v, %d", i, got, e)
		}
	}
}

func TestKeysOfAnotherChainAreNotLearnt(t *testing.T) {
	keys := keysOf(api.Key{1, 1, 1}, 9)
	for _, seed := range append(seeds(), named(api.Key{1, 1, 1}, "seed")) {
		for i, k := range keysOf(seed, 9) {
			if i == 0 {
				continue
			}
			if m, e := (chain.Mind{Known: keys[0]}).Learn(k, i, 9); m != (chain.Mind{}) || e != api.ErrKey {
				t.Errorf("the key %d of %x: %v, %d", i, seed[:4], m, e)
			}
		}
	}
	for i, k := range keysOf(api.Key{1, 1, 1}, 10) { // of the same seed, but longer: each key is one place off
		if i == 0 {
			continue
		}
		if m, e := (chain.Mind{Known: keys[0]}).Learn(k, i, 10); m != (chain.Mind{}) || e != api.ErrKey {
			t.Errorf("the key %d of a longer chain: %v, %d", i, m, e)
		}
	}
}

func TestNextChainIsLearntFromItsOwnKnownKey(t *testing.T) {
	seed := api.Key{9, 9}
	for range 3 {
		next := chain.Next(seed)
		known, _ := chain.Known(next, 20)
		last, _ := chain.Key(next, 20, 20)
		if m, e := (chain.Mind{Known: known}).Learn(last, 20, 20); e != api.OK || m.At != 20 {
			t.Errorf("the next chain's last key: %d", e)
		}
		old, _ := chain.Known(seed, 20)
		if _, e := (chain.Mind{Known: old}).Learn(last, 20, 20); e != api.ErrKey {
			t.Errorf("the next chain's last key, by the old one's key 0: %d", e)
		}
		seed = next
	}
}

// A far key is refused without going there: many asks take no time.
func TestFarKeysAreNotWalked(t *testing.T) {
	for i := range 1000000 {
		if e := chain.Check(api.Key{}, 0, api.Key{}, math.MaxInt-i, math.MaxInt); e != api.ErrFar {
			t.Fatalf("Check of %d: %d", math.MaxInt-i, e)
		}
	}
}

// R4 and R5: the same calls answer the same, whatever was asked between.
func TestAskedAgain(t *testing.T) {
	keys := keysOf(api.Key{3, 3}, 30)
	for range 3 {
		for i := 1; i <= 30; i++ {
			if k, e := chain.Key(api.Key{3, 3}, 30, i); k != keys[i] || e != api.OK {
				t.Errorf("Key of 30, %d: %d", i, e)
			}
			check{keys[0], 0, keys[i], i, 30}.hold(t, api.OK)
			check{keys[0], 0, keys[i-1], i, 30}.hold(t, api.ErrKey)
		}
	}
}
