package octet_test

import (
	"math"
	"slices"
	"strings"
	"testing"

	"timeball/api"
	"timeball/octet"
)

// numbers are such as show a byte that is lost, doubled, or at the wrong end.
func numbers() []uint64 {
	return []uint64{0, 1, 2, 127, 128, 255, 256, 258, 65535, 65536, 1 << 31, 1<<32 - 1, 1 << 32, 1 << 63, 0x0102030405060708, 0xf1e2d3c4b5a69788, 1<<64 - 2, 1<<64 - 1}
}

// texts are such as show a byte that is taken for an end, or for a part of a rune.
func texts() []string {
	return []string{"", "a", "\x00", "\x00\x00", "ab", "abc", "a\x00", "\x00a", "\xff\xfe\x80", "h\u00e4\u6642", "abcdefg", "abcdefgh", "abcdefghi", strings.Repeat("0123456789", 13)}
}

// P1.1

func TestPut(t *testing.T) {
	for _, c := range []struct {
		n     uint64
		bytes int
		want  string
	}{
		{258, 3, "\x00\x01\x02"},
		{258, 2, "\x01\x02"},
		{258, 1, "\x02"},
		{0x0102030405060708, 8, "\x01\x02\x03\x04\x05\x06\x07\x08"},
		{0x0102030405060708, 7, "\x02\x03\x04\x05\x06\x07\x08"},
		{0x0102030405060708, 4, "\x05\x06\x07\x08"},
		{0xf1e2d3c4b5a69788, 5, "\xc4\xb5\xa6\x97\x88"},
		{0, 1, "\x00"},
		{0, 8, "\x00\x00\x00\x00\x00\x00\x00\x00"},
		{200, 1, "\xc8"}, // not the rune 200, which has two bytes
		{math.MaxUint64, 8, "\xff\xff\xff\xff\xff\xff\xff\xff"},
	} {
		if got := octet.Put(c.n, c.bytes); got != c.want {
			t.Errorf("Put(%d, %d): %x, want %x", c.n, c.bytes, got, c.want)
		}
	}
}

func TestPutOfTooFewOrTooManyBytes(t *testing.T) {
	const n = 0xf1e2d3c4b5a69788
	for _, bytes := range []int{0, -1, -8, math.MinInt} {
		if got := octet.Put(n, bytes); got != "" {
			t.Errorf("Put(.., %d): %x, want no bytes", bytes, got)
		}
	}
	for _, bytes := range []int{8, 9, 64, math.MaxInt} {
		if got := octet.Put(n, bytes); got != "\xf1\xe2\xd3\xc4\xb5\xa6\x97\x88" {
			t.Errorf("Put(.., %d): %x, want all 8", bytes, got)
		}
	}
}

func TestTake(t *testing.T) {
	for s, want := range map[string]uint64{
		"":                                 0,
		"\x00":                             0,
		"\x02":                             2,
		"\xff":                             255,
		"\x01\x02":                         258,
		"\x00\x01\x02":                     258,
		"\x01\x00":                         256,
		"\x80\x00\x00\x00":                 1 << 31,
		"\x01\x02\x03\x04\x05\x06\x07\x08": 0x0102030405060708,
		"\x80\x00\x00\x00\x00\x00\x00\x00": 1 << 63,
		"\xff\xff\xff\xff\xff\xff\xff\xff": math.MaxUint64,
	} {
		if got, e := octet.Take(s); got != want || e != api.OK {
			t.Errorf("Take(%x): %d, %d, want %d, %d", s, got, e, want, api.OK)
		}
	}
}

func TestTakeOfTooManyBytes(t *testing.T) {
	for _, s := range []string{"123456789", strings.Repeat("\x00", 9), "\x00abcdefgh", strings.Repeat("\xff", 100000)} {
		if got, e := octet.Take(s); got != 0 || e != api.ErrSize {
			t.Errorf("Take of %d bytes: %d, %d, want 0, %d", len(s), got, e, api.ErrSize)
		}
	}
}

// P1.2

func TestLeft(t *testing.T) {
	for _, c := range []struct {
		n    uint32
		by   int
		want uint32
	}{
		{1<<31 + 1, 1, 3},
		{0x12345678, 0, 0x12345678},
		{0x12345678, 4, 0x23456781},
		{0x12345678, 28, 0x81234567},
		{0x12345678, 31, 0x091a2b3c},
		{0x12345678, 32, 0x12345678},
		{0x12345678, 33, 0x2468acf0},
		{0x12345678, 36, 0x23456781},
		{0x12345678, 64, 0x12345678},
		{0x12345678, -1, 0x091a2b3c},
		{0x12345678, -4, 0x81234567},
		{0x12345678, -31, 0x2468acf0},
		{0x12345678, -32, 0x12345678},
		{0x12345678, -36, 0x81234567},
		{0x12345678, math.MaxInt, 0x091a2b3c}, // 31 modulo 32
		{0x12345678, math.MinInt, 0x12345678}, // 0 modulo 32
		{0x12345678, math.MinInt + 4, 0x23456781},
		{0, 7, 0},
		{math.MaxUint32, 7, math.MaxUint32},
	} {
		if got := octet.Left(c.n, c.by); got != c.want {
			t.Errorf("Left(%x, %d): %x, want %x", c.n, c.by, got, c.want)
		}
	}
}

func TestLeftMovesEachBit(t *testing.T) {
	for bit := range 32 {
		for by := -70; by <= 70; by++ {
			to := ((bit+by)%32 + 32) % 32
			if got := octet.Left(1<<bit, by); got != 1<<to {
				t.Errorf("Left(1<<%d, %d): %x, want 1<<%d", bit, by, got, to)
			}
		}
	}
}

func TestSame(t *testing.T) {
	for i, a := range texts() {
		for j, b := range texts() {
			if octet.Same(a, strings.Clone(b)) != (i == j) {
				t.Errorf("Same(%q, %q): %v", a, b, i != j)
			}
		}
	}
}

func TestSameSeesEachBitOfEachByte(t *testing.T) {
	a := strings.Repeat("0123456789", 13)
	for at := range len(a) {
		for bit := range 8 {
			b := a[:at] + string([]byte{a[at] ^ 1<<bit}) + a[at+1:]
			if octet.Same(a, b) || octet.Same(b, a) {
				t.Errorf("bit %d of byte %d isn't seen", bit, at)
			}
		}
	}
}

func TestSameOfFaultsThatMakeUp(t *testing.T) {
	for _, c := range [][2]string{{"ab", "ba"}, {"ac", "bb"}, {"\x00\x00", "\x01\x01"}, {"\x00\x00", "\x80\x80"}, {"\x01\x02\x03", "\x00\x00\x00"}} {
		if octet.Same(c[0], c[1]) {
			t.Errorf("Same(%q, %q)", c[0], c[1])
		}
	}
}

func TestSameOfUnlikeLengths(t *testing.T) {
	for _, a := range texts() {
		for _, more := range []string{"\x00", "a", strings.Repeat("\x00", 256)} {
			if octet.Same(a, a+more) || octet.Same(a+more, a) {
				t.Errorf("%q and %d more bytes are the same", a, len(more))
			}
		}
	}
}

// P1.3

func TestParts(t *testing.T) {
	for _, c := range []struct {
		s     string
		bytes int
		want  []string
	}{
		{"abcdef", 1, []string{"a", "b", "c", "d", "e", "f"}},
		{"abcdef", 2, []string{"ab", "cd", "ef"}},
		{"abcdef", 3, []string{"abc", "def"}},
		{"abcdef", 4, []string{"abcd", "ef"}},
		{"abcdef", 5, []string{"abcde", "f"}},
		{"abcdef", 6, []string{"abcdef"}},
		{"abcdef", 7, []string{"abcdef"}},
		{"abcdef", math.MaxInt, []string{"abcdef"}},
		{"a", 1, []string{"a"}},
		{"\x00\x00\x00", 2, []string{"\x00\x00", "\x00"}},
		{"h\u00e4", 2, []string{"h\xc3", "\xa4"}},
	} {
		if got := octet.Parts(c.s, c.bytes); !slices.Equal(got, c.want) {
			t.Errorf("Parts(%q, %d): %q, want %q", c.s, c.bytes, got, c.want)
		}
	}
}

func TestPartsThatAreNone(t *testing.T) {
	for _, bytes := range []int{0, -1, -3, math.MinInt} {
		for _, s := range texts() {
			if got := octet.Parts(s, bytes); len(got) != 0 {
				t.Errorf("Parts(%q, %d): %q, want none", s, bytes, got)
			}
		}
	}
	for _, bytes := range []int{1, 2, 64, math.MaxInt} {
		if got := octet.Parts("", bytes); len(got) != 0 {
			t.Errorf("Parts of no bytes, %d: %q, want none", bytes, got)
		}
	}
}

func TestPartsAreNewEachTime(t *testing.T) {
	first := octet.Parts("abcd", 2)
	first[0] = "changed"
	if got := octet.Parts("abcd", 2); !slices.Equal(got, []string{"ab", "cd"}) {
		t.Errorf("%q", got)
	}
}

func TestPad(t *testing.T) {
	for _, c := range []struct {
		s    string
		to   int
		want string
	}{
		{"abc", 1, "abc"},
		{"abc", 2, "abc\x00"},
		{"abc", 3, "abc"},
		{"abc", 4, "abc\x00"},
		{"abc", 5, "abc\x00\x00"},
		{"abc", 8, "abc\x00\x00\x00\x00\x00"},
		{"abcdefgh", 3, "abcdefgh\x00"},
		{"abcdefgh", 4, "abcdefgh"},
		{"a\x00", 2, "a\x00"},
		{"a\x00", 4, "a\x00\x00\x00"},
	} {
		if got := octet.Pad(c.s, c.to); got != c.want {
			t.Errorf("Pad(%q, %d): %q, want %q", c.s, c.to, got, c.want)
		}
	}
}

func TestPadThatAddsNothing(t *testing.T) {
	for _, to := range []int{0, -1, -4, math.MinInt} {
		for _, s := range texts() {
			if got := octet.Pad(s, to); got != s {
				t.Errorf("Pad(%q, %d): %q", s, to, got)
			}
		}
	}
	for _, to := range []int{1, 8, math.MaxInt} { // no bytes are a multiple of any size
		if got := octet.Pad("", to); got != "" {
			t.Errorf("Pad of no bytes, %d: %d bytes", to, len(got))
		}
	}
}

// P1.4

func TestNumbersThereAndBack(t *testing.T) {
	for _, n := range numbers() {
		for bytes := range 9 {
			want := n
			if bytes < 8 {
				want = n % (1 << (8 * bytes))
			}
			s := octet.Put(n, bytes)
			if got, e := octet.Take(s); len(s) != bytes || got != want || e != api.OK {
				t.Errorf("Take(Put(%d, %d)): %d, %d, want %d", n, bytes, got, e, want)
			}
		}
	}
}

func TestBytesThereAndBack(t *testing.T) {
	for _, s := range texts() {
		if len(s) > 8 {
			continue
		}
		n, e := octet.Take(s)
		if got := octet.Put(n, len(s)); got != s || e != api.OK {
			t.Errorf("Put(Take(%q)): %q, %d", s, got, e)
		}
	}
}

func TestWhatIsTurnedRoundComesRound(t *testing.T) {
	for _, wide := range numbers() {
		n := uint32(wide)
		for by := -70; by <= 70; by++ {
			turned := octet.Left(n, by)
			if octet.Left(turned, -by) != n || octet.Left(turned, 32-by) != n {
				t.Errorf("%x, turned by %d, doesn't come round", n, by)
			}
			if octet.Left(turned, 5) != octet.Left(n, by+5) {
				t.Errorf("%x: turns by %d and by 5 aren't one by both", n, by)
			}
		}
	}
}

func TestPartsJoinedAreTheWhole(t *testing.T) {
	for _, s := range texts() {
		for bytes := 1; bytes <= len(s)+2; bytes++ {
			parts := octet.Parts(s, bytes)
			if got := strings.Join(parts, ""); got != s {
				t.Errorf("Parts(%q, %d), joined: %q", s, bytes, got)
			}
			for i, p := range parts {
				if len(p) < 1 || len(p) > bytes || i < len(parts)-1 && len(p) != bytes {
					t.Errorf("Parts(%q, %d): part %d has %d bytes", s, bytes, i, len(p))
				}
			}
		}
	}
}

func TestPartsOfWhatIsPaddedAreWhole(t *testing.T) {
	for _, s := range texts() {
		for to := 1; to <= len(s)+2; to++ {
			padded := octet.Pad(s, to)
			rest, ok := strings.CutPrefix(padded, s)
			if !ok || len(rest) >= to || strings.Trim(rest, "\x00") != "" {
				t.Errorf("Pad(%q, %d): %q", s, to, padded)
			}
			for _, p := range octet.Parts(padded, to) {
				if len(p) != to {
					t.Errorf("Pad(%q, %d) has a part of %d bytes", s, to, len(p))
				}
			}
			if octet.Pad(padded, to) != padded {
				t.Errorf("Pad(%q, %d), padded anew, is another", s, to)
			}
		}
	}
}
