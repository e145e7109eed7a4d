package sha_test

import (
	"crypto/sha256"
	"encoding/hex"
	"math"
	"strings"
	"testing"

	"timeball/api"
	"timeball/sha"
)

// text tells so many bytes of all values, such that no piece of it looks like its neighbour.
func text(size int) string {
	told := make([]byte, size)
	n := uint32(size + 1)
	for i := range told {
		n = n*1664525 + 1013904223
		told[i] = byte(n >> 24)
	}
	return string(told)
}

// lengths lie about the ends of the first blocks, where what comes behind the text takes one block or two.
func lengths() []int {
	return []int{0, 1, 2, 3, 54, 55, 56, 57, 62, 63, 64, 65, 66, 118, 119, 120, 121, 127, 128, 129, 183, 184, 191, 192, 193, 200, 255, 256, 257, 1000, 4096}
}

// inPieces goes through a text by pieces of so many bytes.
func inPieces(s string, bytes int) sha.State {
	state := sha.New()
	for s != "" {
		piece := s[:min(bytes, len(s))]
		s = s[len(piece):]
		state = state.More(piece)
	}
	return state
}

// P2.1

func TestSumOfKnownTexts(t *testing.T) {
	for s, want := range map[string]string{
		"":    "e3b0c44298fc1c149afbf4c8996fb92427ae41e4649b934ca495991b7852b855",
		"abc": "ba7816bf8f01cfea414140de5dae2223b00361a396177a9cb410ff61f20015ad",
		"The quick brown fox jumps over the lazy dog":              "d7a8fbb307d7809469ca9abcb0082e4f8d5651e46d3cdb762d02d0bf37c9e592",
		"abcdbcdecdefdefgefghfghighijhijkijkljklmklmnlmnomnopnopq": "248d6a61d20638b8e5c026930c3e6039a33ce45964ff2167f6ecedd419db06c1",
		strings.Repeat("a", 1000000):                               "cdc76e5c9914fb9281a1c7e284d73e67f1809a48a497200e046d39ccc7112cd0",
		"\x00":                                                     "6e340b9cffb37a989ca544e6bb780a2c78901d3fb33738768511a30617afa01d",
		strings.Repeat("\x00", 64):                                 "f5a5fd42d16a20302798ef6ed309979b43003d2320d9f0e8ea9831a92759fb4b",
	} {
		if got := sha.Hex(sha.Sum(s)); got != want {
			t.Errorf("Sum of %d bytes %.20q: %s, want %s", len(s), s, got, want)
		}
	}
}

func TestSumOfAllLengths(t *testing.T) {
	for size := range 400 {
		s := text(size)
		if got := sha.Sum(s); got != sha256.Sum256([]byte(s)) {
			t.Errorf("Sum of %d bytes: %s", size, sha.Hex(got))
		}
	}
	for _, size := range lengths() {
		for _, b := range []string{"\x00", "\x80", "\xff", "q"} {
			s := strings.Repeat(b, size)
			if got := sha.Sum(s); got != sha256.Sum256([]byte(s)) {
				t.Errorf("Sum of %d bytes %q: %s", size, b, sha.Hex(got))
			}
		}
	}
}

func TestSumOfALongText(t *testing.T) {
	for _, size := range []int{8191, 8192, 65535, 65536, 1 << 21, 1<<25 + 7} { // the lengths in bits have 2 to 4 bytes
		s := text(size)
		if got := sha.Sum(s); got != sha256.Sum256([]byte(s)) {
			t.Errorf("Sum of %d bytes: %s", size, sha.Hex(got))
		}
	}
}

func TestSumOfALengthBeyond32Bits(t *testing.T) {
	if testing.Short() {
		t.Skip("half a gigabyte goes through")
	}
	t.Parallel()
	piece := text(1 << 20)
	bytes := []byte(piece)
	state, want := sha.New(), sha256.New()
	for range 1<<9 + 1 { // 2^29 bytes are 2^32 bits
		state = state.More(piece)
		want.Write(bytes)
	}
	if got := state.Key(); string(got[:]) != string(want.Sum(nil)) {
		t.Errorf("digest of %d bytes: %s", state.Size(), sha.Hex(got))
	}
}

func TestSumSeesEachBit(t *testing.T) {
	for _, size := range []int{1, 55, 56, 64, 65, 130} {
		s := []byte(text(size))
		seen := map[api.Key]bool{sha.Sum(string(s)): true}
		for bit := range 8 * size {
			s[bit/8] ^= 1 << (bit % 8)
			k := sha.Sum(string(s))
			if seen[k] {
				t.Errorf("%d bytes: bit %d isn't seen", size, bit)
			}
			seen[k] = true
			s[bit/8] ^= 1 << (bit % 8)
		}
	}
}

func TestTheZeroStateIsOneOfNoText(t *testing.T) {
	var zero sha.State
	none := sha.New()
	if zero.Size() != 0 || none.Size() != 0 {
		t.Errorf("sizes %d, %d", zero.Size(), none.Size())
	}
	if want := sha.Sum(""); zero.Key() != want || none.Key() != want {
		t.Errorf("keys %s, %s", sha.Hex(zero.Key()), sha.Hex(none.Key()))
	}
	for _, size := range lengths() {
		s := text(size)
		a, b := zero.More(s), none.More(s)
		if want := sha256.Sum256([]byte(s)); a.Key() != want || b.Key() != want || a.Size() != size || b.Size() != size {
			t.Errorf("%d bytes behind no text: %s, %s", size, sha.Hex(a.Key()), sha.Hex(b.Key()))
		}
	}
}

func TestSizeCountsAllBytes(t *testing.T) {
	state, want := sha.New(), 0
	for _, size := range lengths() {
		state = state.More(text(size))
		want += size
		if state.Size() != want {
			t.Errorf("Size %d, want %d", state.Size(), want)
		}
	}
}

func TestKeyEndsNothing(t *testing.T) {
	state, s := sha.New(), ""
	for _, size := range lengths() {
		more := text(size)
		state, s = state.More(more), s+more
		for range 2 {
			if state.Key() != sha256.Sum256([]byte(s)) || state.Size() != len(s) {
				t.Errorf("%d bytes: %s, size %d", len(s), sha.Hex(state.Key()), state.Size())
			}
		}
	}
}

// P2.2

func TestWalk(t *testing.T) {
	for _, from := range []api.Key{{}, {31: 1}, {0: 0x80}, sha.Sum("abc")} {
		want := from
		for steps := range 4097 {
			if steps < 8 || steps%1000 == 0 || steps > 4094 {
				if got := sha.Walk(from, steps); got != want {
					t.Errorf("%d steps: %s, want %s", steps, sha.Hex(got), sha.Hex(want))
				}
			}
			want = sha256.Sum256(want[:])
		}
	}
}

func TestWalkOfNoSteps(t *testing.T) {
	for _, from := range []api.Key{{}, {0x1f, 0xa0}, sha.Sum("")} {
		for _, steps := range []int{0, -1, -2, -4096, -4097, math.MinInt} {
			if got := sha.Walk(from, steps); got != from {
				t.Errorf("%d steps: %s, want the key itself", steps, sha.Hex(got))
			}
		}
	}
}

func TestWalkOfTooManySteps(t *testing.T) {
	from := sha.Sum("abc")
	want := from
	for range 4096 {
		want = sha256.Sum256(want[:])
	}
	for _, steps := range []int{4096, 4097, 5000, 8192, 1 << 16, math.MaxInt32, math.MaxInt} {
		if got := sha.Walk(from, steps); got != want {
			t.Errorf("%d steps: %s, want %s", steps, sha.Hex(got), sha.Hex(want))
		}
	}
}

func TestWalkGoesOn(t *testing.T) {
	from := sha.Sum("abc")
	for _, a := range []int{0, 1, 2, 17} {
		for _, b := range []int{0, 1, 5, 40} {
			if sha.Walk(sha.Walk(from, a), b) != sha.Walk(from, a+b) {
				t.Errorf("%d and %d steps aren't %d", a, b, a+b)
			}
		}
	}
}

func TestHex(t *testing.T) {
	for want, k := range map[string]api.Key{
		strings.Repeat("0", 64):                                            {},
		"1fa0" + strings.Repeat("0", 60):                                   {0x1f, 0xa0},
		strings.Repeat("0", 62) + "0f":                                     {31: 0x0f},
		strings.Repeat("0", 62) + "f0":                                     {31: 0xf0},
		"00010203040506070809101112131415161718191a1b1c1d1e1f7f8090a9aaff": {0, 1, 2, 3, 4, 5, 6, 7, 8, 9, 16, 17, 18, 19, 20, 21, 22, 23, 24, 25, 26, 27, 28, 29, 30, 31, 0x7f, 0x80, 0x90, 0xa9, 0xaa, 0xff},
	} {
		if got := sha.Hex(k); got != want {
			t.Errorf("Hex: %s, want %s", got, want)
		}
	}
}

func TestHexOfEachByteAtEachPlace(t *testing.T) {
	for b := range 256 {
		for at := range api.KeySize {
			var k api.Key
			k[at] = byte(b)
			if got := sha.Hex(k); got != hex.EncodeToString(k[:]) {
				t.Errorf("byte %d at %d: %s", b, at, got)
			}
		}
	}
}

// P2.3

func TestInWhateverPieces(t *testing.T) {
	for _, size := range lengths() {
		s := text(size)
		want := sha256.Sum256([]byte(s))
		for _, bytes := range []int{1, 2, 3, 5, 7, 13, 31, 32, 55, 56, 63, 64, 65, 100, 127, 128, 129, 200, 1000} {
			if got := inPieces(s, bytes); got.Key() != want || got.Size() != size || got != sha.New().More(s) {
				t.Errorf("%d bytes in pieces of %d: %s, size %d", size, bytes, sha.Hex(got.Key()), got.Size())
			}
		}
	}
}

func TestInThreePieces(t *testing.T) {
	s := text(140)
	want := sha256.Sum256([]byte(s))
	for a := 0; a <= len(s); a++ {
		for b := a; b <= len(s); b++ {
			if got := sha.New().More(s[:a]).More(s[a:b]).More(s[b:]); got.Key() != want || got.Size() != len(s) {
				t.Errorf("parted at %d and %d: %s, size %d", a, b, sha.Hex(got.Key()), got.Size())
			}
		}
	}
}

func TestEmptyPiecesChangeNothing(t *testing.T) {
	for _, size := range lengths() {
		s := text(size)
		want := sha256.Sum256([]byte(s))
		state := sha.New().More("").More("")
		for i := range size {
			state = state.More(s[i : i+1]).More("")
		}
		if state = state.More(""); state.Key() != want || state.Size() != size {
			t.Errorf("%d bytes, empty pieces among them: %s, size %d", size, sha.Hex(state.Key()), state.Size())
		}
	}
}

func TestAStateGoesOnInTwoWays(t *testing.T) {
	for _, size := range lengths() {
		first := text(size)
		root := sha.New().More(first)
		for _, more := range lengths() {
			left, right := strings.Repeat("l", more), strings.Repeat("r", more+1)
			a := root.More(left)
			b := root.More(right)
			a, b = a.More("end of left"), b.More("end of right")
			if a.Key() != sha256.Sum256([]byte(first+left+"end of left")) || b.Key() != sha256.Sum256([]byte(first+right+"end of right")) {
				t.Errorf("%d bytes, and %d in two ways: %s, %s", size, more, sha.Hex(a.Key()), sha.Hex(b.Key()))
			}
			if root.Key() != sha256.Sum256([]byte(first)) || root.Size() != size {
				t.Errorf("%d bytes don't stay as they were when %d come behind: %s, size %d", size, more, sha.Hex(root.Key()), root.Size())
			}
		}
	}
}

func TestACopyOfAStateGoesOnByItself(t *testing.T) {
	root := sha.New().More(text(70))
	twin := root
	twin = twin.More("more")
	if root.Key() != sha256.Sum256([]byte(text(70))) || twin.Key() != sha256.Sum256([]byte(text(70)+"more")) {
		t.Errorf("%s, %s", sha.Hex(root.Key()), sha.Hex(twin.Key()))
	}
}
