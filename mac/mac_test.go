package mac_test

import (
	"crypto/hmac"
	"crypto/sha256"
	"math"
	"strings"
	"sync"
	"testing"
	"time"

	"timeball/api"
	"timeball/mac"
	"timeball/sha"
)

// text tells so many bytes of all values, such that no piece of it looks like its neighbour.
func text(size int) string {
	told := make([]byte, size)
	n := uint32(size + 1)
	for i := range told {
		n = n*1664525 + 1013904223
		told[i] = byte(n >> 24)
	}
	return string(told)
}

// byLibrary tells the tag that the library tells.
func byLibrary(key, text string) api.Key {
	h := hmac.New(sha256.New, []byte(key))
	h.Write([]byte(text))
	return api.Key(h.Sum(nil))
}

// keys lie about the end of a block, beyond which a key's digest counts, and some end in bytes 0.
func keys() []string {
	var told []string
	for _, size := range []int{0, 1, 2, 20, 31, 32, 33, 62, 63, 64, 65, 66, 127, 128, 129, 1000} {
		told = append(told, text(size), strings.Repeat("\x00", size), strings.Repeat("\xff", size))
	}
	return append(told, "Jefe", "\x36", "\x5c", strings.Repeat("\x36", 64), strings.Repeat("\x5c", 64), "a\x00b")
}

// texts lie about the ends of blocks.
func texts() []string {
	told := []string{"Hi There", "\x00", "\x00\x00", "mac", "chain", "seed", "größe", "\xff\xfe"}
	for _, size := range []int{0, 1, 31, 32, 54, 55, 56, 63, 64, 65, 119, 120, 128, 1000} {
		told = append(told, text(size))
	}
	return told
}

// P3.1: Tag

func TestTagOfKnownTexts(t *testing.T) {
	counting := make([]byte, 25)
	for i := range counting {
		counting[i] = byte(i + 1)
	}
	for _, c := range []struct{ key, text, want string }{
		{strings.Repeat("\x0b", 20), "Hi There", "b0344c61d8db38535ca8afceaf0bf12b881dc200c9833da726e9376c2e32cff7"},
		{"Jefe", "what do ya want for nothing?", "5bdcc146bf60754e6a042426089575c75a003f089d2739839dec58b964ec3843"},
		{strings.Repeat("\xaa", 20), strings.Repeat("\xdd", 50), "773ea91e36800e46854db8ebd09181a72959098b3ef8c122d9635514ced565fe"},
		{string(counting), strings.Repeat("\xcd", 50), "82558a389a443c0ea4cc819899f2083a85f0faa3e578f8077a2e3ff46729665b"},
		{strings.Repeat("\xaa", 131), "Test Using Larger Than Block-Size Key - Hash Key First", "60e431591ee0b67f0d8a26aacbf5b77f8e0bc6213728c5140546040f0ee37f54"},
		{"", "", "b613679a0814d9ec772f95d778c35fc5ff1697c493715653c6c712144292c5ad"},
		{"key", "The quick brown fox jumps over the lazy dog", "f7bc83f430538424b13298e6aa6fb143ef4d59a14946175997479dbc2d1a3cd8"},
	} {
		if got := sha.Hex(mac.Tag(c.key, c.text)); got != c.want {
			t.Errorf("Tag of %d bytes %.10q and %q: %s, want %s", len(c.key), c.key, c.text, got, c.want)
		}
	}
}

func TestTagOfAllKeysAndTexts(t *testing.T) {
	for _, key := range keys() {
		for _, s := range texts() {
			if got, want := mac.Tag(key, s), byLibrary(key, s); got != want {
				t.Errorf("Tag of %d bytes %.10q and %d bytes %.10q: %x, want %x", len(key), key, len(s), s, got, want)
			}
		}
	}
}

func TestTagOfAllLengthsOfKeys(t *testing.T) {
	for size := range 200 {
		if got, want := mac.Tag(text(size), "a text"), byLibrary(text(size), "a text"); got != want {
			t.Errorf("Tag of a key of %d bytes: %x, want %x", size, got, want)
		}
	}
}

func TestTagOfKeyWithBytes0Behind(t *testing.T) {
	for _, size := range []int{0, 1, 32, 63} {
		key := text(size)
		for zeros := range 64 - size + 1 {
			if mac.Tag(key+strings.Repeat("\x00", zeros), "a text") != mac.Tag(key, "a text") {
				t.Errorf("a key of %d bytes, and %d bytes 0 behind: another tag", size, zeros)
			}
		}
		if mac.Tag(key+strings.Repeat("\x00", 65-size), "a text") == mac.Tag(key, "a text") {
			t.Errorf("a key of %d bytes, with bytes 0 behind beyond 64: the same tag", size)
		}
		if mac.Tag("\x00"+key+"a", "a text") == mac.Tag(key+"a", "a text") {
			t.Errorf("a key of %d bytes, with a byte 0 ahead: the same tag", size)
		}
	}
}

func TestTagOfLongKeyIsTagOfItsDigest(t *testing.T) {
	for _, size := range []int{65, 66, 100, 128, 1000, 100000} {
		key := text(size)
		digest := sha.Sum(key)
		if mac.Tag(key, "a text") != mac.Tag(string(digest[:]), "a text") {
			t.Errorf("a key of %d bytes: not the tag by its digest", size)
		}
	}
	for _, size := range []int{0, 1, 63, 64} {
		key := text(size)
		digest := sha.Sum(key)
		if mac.Tag(key, "a text") == mac.Tag(string(digest[:]), "a text") {
			t.Errorf("a key of %d bytes: the tag by its digest", size)
		}
	}
}

func TestTagHangsOnKeyAndText(t *testing.T) {
	seen := map[api.Key]string{}
	for _, c := range []struct{ key, text string }{
		{"", ""}, {"a", ""}, {"", "a"}, {"a", "a"}, {"ab", "c"}, {"a", "bc"}, {"abc", ""}, {"", "abc"}, {"", "\x00"}, {"b", "a"},
	} {
		name := c.key + "," + c.text
		tag := mac.Tag(c.key, c.text)
		if other, ok := seen[tag]; ok {
			t.Errorf("%q and %q: one tag", name, other)
		}
		seen[tag] = name
	}
}

// P3.1: Of

func TestOf(t *testing.T) {
	var counting, full api.Key
	for i := range counting {
		counting[i] = byte(i)
		full[i] = 255
	}
	seen := map[api.Key]bool{}
	for _, k := range []api.Key{{}, {1, 2}, {31: 1}, counting, full, sha.Sum("")} {
		before := k
		for _, name := range []string{"", "mac", "chain", "seed", "\x00", "a name that is longer than a block of a digest is: 64 bytes, and more"} {
			got := mac.Of(k, name)
			if got != byLibrary(string(k[:]), name) || got != mac.Tag(string(k[:]), name) {
				t.Errorf("Of %x and %q: %x", k, name, got)
			}
			if seen[got] {
				t.Errorf("Of %x and %q: the key of another name, too", k, name)
			}
			seen[got] = true
		}
		if k != before {
			t.Errorf("Of changed %x", before)
		}
	}
}

func TestOfKnownName(t *testing.T) {
	const want = "d5d4e353b7b945e4477ff9db4918936e1fefe586f4fb3b0dbac1365201d29a57"
	if got := sha.Hex(mac.Of(api.Key{1, 2}, "mac")); got != want {
		t.Errorf("Of: %s, want %s", got, want)
	}
}

// P3.1: Short

func TestShort(t *testing.T) {
	for _, key := range []string{"", "a key", text(64), text(65)} {
		for _, s := range []string{"", "a text", text(100)} {
			tag := byLibrary(key, s)
			for bytes, want := range map[int]int{
				math.MinInt: 0, -33: 0, -8: 0, -1: 0, 0: 0, 1: 1, 2: 2, 7: 7, 8: 8, 9: 9, 15: 15, 16: 16, 17: 17,
				30: 30, 31: 31, 32: 32, 33: 32, 64: 32, 1 << 32: 32, math.MaxInt: 32,
			} {
				if got := mac.Short(key, s, bytes); got != string(tag[:want]) {
					t.Errorf("Short of %.10q, %.10q, %d: %x, want %x", key, s, bytes, got, tag[:want])
				}
			}
		}
	}
}

// P3.1: Right

func TestRightOfAllLengths(t *testing.T) {
	for _, key := range []string{"", "a key", text(64), text(65)} {
		for _, s := range []string{"", "a text", text(100)} {
			tag := byLibrary(key, s)
			for bytes := range 33 {
				if got := mac.Right(key, s, string(tag[:bytes])); got != (bytes >= 8) {
					t.Errorf("Right of %.10q, %.10q and the first %d bytes: %t", key, s, bytes, got)
				}
			}
		}
	}
}

func TestRightOfTurnedBytes(t *testing.T) {
	whole := byLibrary("a key", "a text")
	for _, bytes := range []int{1, 7, 8, 9, 16, 31, 32} {
		for i := range bytes {
			for _, turn := range []byte{1, 2, 128, 255} {
				tag := []byte(whole[:bytes])
				tag[i] ^= turn
				if mac.Right("a key", "a text", string(tag)) {
					t.Errorf("Right of %d bytes, byte %d turned by %d", bytes, i, turn)
				}
			}
		}
	}
}

func TestRightOfWrongTags(t *testing.T) {
	whole := byLibrary("a key", "a text")
	tag := string(whole[:])
	for name, wrong := range map[string]string{
		"none": "", "33 bytes": tag + "\x00", "33 bytes, the first twice": tag[:1] + tag, "twice": tag + tag,
		"bytes 0": strings.Repeat("\x00", 32), "8 bytes 0": strings.Repeat("\x00", 8), "the last 8": tag[24:], "the last 31": tag[1:],
		"in sixteens": sha.Hex(whole), "8 right bytes and 24 others": tag[:8] + strings.Repeat("\x00", 24), "much": strings.Repeat(tag, 10000),
	} {
		if mac.Right("a key", "a text", wrong) {
			t.Errorf("Right of a tag: %s", name)
		}
	}
	for _, c := range []struct{ key, text string }{
		{"a key", "a text "}, {"a key", "a tex"}, {"a key", "A text"}, {"a key", ""}, {"a kez", "a text"}, {"", "a text"}, {"a text", "a key"}, {"a key\x01", "a text"},
	} {
		if mac.Right(c.key, c.text, tag) || mac.Right(c.key, c.text, tag[:8]) {
			t.Errorf("Right of %q and %q by the tag of others", c.key, c.text)
		}
	}
}

// P3.2

func TestWith(t *testing.T) {
	for _, key := range keys() {
		maker := mac.With(key)
		for _, s := range texts() {
			if got, want := maker(s), byLibrary(key, s); got != want {
				t.Errorf("With %d bytes %.10q, of %d bytes %.10q: %x, want %x", len(key), key, len(s), s, got, want)
			}
		}
	}
}

func TestWithInAnyOrderAndAgain(t *testing.T) {
	maker := mac.With("a key")
	asked := texts()
	for round := range 3 {
		for i := range asked {
			for _, s := range []string{asked[i], asked[len(asked)-1-i], asked[i*7%len(asked)], asked[i]} {
				if maker(s) != byLibrary("a key", s) {
					t.Errorf("round %d: another tag of %d bytes %.10q", round, len(s), s)
				}
			}
		}
	}
}

func TestWithManyKeysSideBySide(t *testing.T) {
	var makers []mac.Maker
	for _, key := range keys() {
		makers = append(makers, mac.With(key))
	}
	for _, s := range texts() {
		for i, key := range keys() {
			if makers[i](s) != byLibrary(key, s) {
				t.Errorf("key %d, %d bytes %.10q: another tag", i, len(s), s)
			}
		}
	}
}

func TestWithTwoKeysByTurns(t *testing.T) {
	one, other, again := mac.With("one"), mac.With("other"), mac.With("one")
	for range 3 {
		for _, s := range texts() {
			a, b := one(s), other(s)
			if a != byLibrary("one", s) || b != byLibrary("other", s) || a == b || again(s) != a {
				t.Errorf("%d bytes %.10q: %x and %x", len(s), s, a, b)
			}
		}
	}
}

func TestWithAskedByManyAtOnce(t *testing.T) {
	maker := mac.With("a key")
	var all sync.WaitGroup
	for _, s := range texts() {
		all.Go(func() {
			for range 20 {
				if maker(s) != byLibrary("a key", s) {
					t.Errorf("%d bytes %.10q: another tag", len(s), s)
				}
			}
		})
	}
	all.Wait()
}

// What is done with a key once is done by With: telling a tag must not go through a long key again.
//
// One round of several is enough, since a busy machine may hold any of them up.
func TestWithGoesThroughTheKeyOnce(t *testing.T) {
	key := text(1 << 20)
	for range 5 {
		start := time.Now()
		maker := mac.With(key)
		once := time.Since(start)
		start = time.Now()
		for range 100 {
			maker("a text")
		}
		if time.Since(start) < 10*once {
			return
		}
	}
	t.Error("a hundred tags take longer than ten times With of a long key")
}
