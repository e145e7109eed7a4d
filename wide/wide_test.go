package wide_test

import (
	"math"
	"math/big"
	"testing"

	"timeball/api"
	"timeball/wide"
)

const (
	least    = math.MinInt64
	greatest = math.MaxInt64
	ones     = math.MaxUint64 // a Low part of which all bits are 1
)

var (
	bottom = wide.Num{High: least}
	top    = wide.Num{High: greatest, Low: ones}
)

// great tells a wide number as the library's, which never is too great.
func great(a wide.Num) *big.Int {
	n := new(big.Int).Lsh(big.NewInt(a.High), 64)
	return n.Add(n, new(big.Int).SetUint64(a.Low))
}

// fitting tells the library's number as a wide one, or that it is none.
func fitting(n *big.Int) (wide.Num, api.Errno) {
	if n.Cmp(great(bottom)) < 0 || n.Cmp(great(top)) > 0 {
		return wide.Num{}, api.ErrOver
	}
	high := new(big.Int).Rsh(n, 64) // it rounds down, also below 0
	low := new(big.Int).Sub(n, new(big.Int).Lsh(high, 64))
	return wide.Num{High: high.Int64(), Low: low.Uint64()}, api.OK
}

// drawn tells so many words of 64 bits that look like drawn ones, and are the same each time.
func drawn(count int) []uint64 {
	told := make([]uint64, count)
	n := uint64(count)
	for i := range told {
		n = n*6364136223846793005 + 1442695040888963407
		told[i] = n ^ n>>29
	}
	return told
}

// numbers are such as lie about 0, about the ends of 32 and of 64 bits, and ordinary ones.
func numbers() []int64 {
	told := []int64{0, 1, 2, 3, 4, 5, 7, 10, 15, 16, 1000000, 1000000007, 1<<31 - 1, 1 << 31, 1<<32 - 1, 1 << 32, 1<<32 + 1, 1 << 61, 1<<62 - 1, 1 << 62, 1<<62 + 1, greatest - 1, greatest}
	for _, n := range told {
		told = append(told, -n)
	}
	for i, word := range drawn(24) {
		told = append(told, int64(word)>>(i*2))
	}
	return append(told, least, least+1)
}

// wideNumbers are those, and such as lie about the ends of wide numbers, and where one part alone has all or none of its bits.
func wideNumbers() []wide.Num {
	var told []wide.Num
	for _, n := range numbers() {
		told = append(told, wide.Num{High: n >> 63, Low: uint64(n)})
	}
	highs := []int64{least, least + 1, -1 << 62, -3, -2, -1, 0, 1, 2, 1 << 62, greatest - 1, greatest}
	lows := []uint64{0, 1, 2, 1<<63 - 1, 1 << 63, 1<<63 + 1, ones - 1, ones}
	for _, high := range highs {
		for _, low := range lows {
			told = append(told, wide.Num{High: high, Low: low})
		}
	}
	words := drawn(40)
	for i := 0; i < len(words); i += 2 {
		told = append(told, wide.Num{High: int64(words[i]) >> (i * 3 / 2), Low: words[i+1]})
	}
	return told
}

// parts are what numbers are parted by.
func parts() []int64 {
	told := []int64{1, 2, 3, 4, 5, 7, 8, 10, 16, 1000, 1000000000, 1<<32 - 1, 1 << 32, 1<<32 + 1, 1 << 61, 1 << 62, 1<<62 + 1, greatest - 1, greatest}
	for i, word := range drawn(12) {
		told = append(told, int64(word>>(1+4*i)))
	}
	return told
}

// wrongParts are what no number is parted by.
func wrongParts() []int64 { return []int64{0, -1, -2, -4, -1 << 32, least + 1, least} }

// P4.1

func TestOf(t *testing.T) {
	for n, want := range map[int64]wide.Num{
		0:         {},
		1:         {Low: 1},
		-1:        {High: -1, Low: ones},
		5:         {Low: 5},
		-5:        {High: -1, Low: ones - 4},
		1 << 32:   {Low: 1 << 32},
		-1 << 32:  {High: -1, Low: ones - 1<<32 + 1},
		greatest:  {Low: 1<<63 - 1},
		least:     {High: -1, Low: 1 << 63},
		least + 1: {High: -1, Low: 1<<63 + 1},
	} {
		if got := wide.Of(n); got != want {
			t.Errorf("Of(%d): %v, want %v", n, got, want)
		}
	}
	for _, n := range numbers() {
		if got := wide.Of(n); great(got).Cmp(big.NewInt(n)) != 0 {
			t.Errorf("Of(%d): %v", n, got)
		}
	}
}

func TestInt(t *testing.T) {
	for _, c := range []struct {
		a    wide.Num
		want int64
	}{
		{wide.Num{}, 0},
		{wide.Num{Low: 1}, 1},
		{wide.Num{High: -1, Low: ones}, -1},
		{wide.Num{Low: 123456789}, 123456789},
		{wide.Num{High: -1, Low: ones - 14}, -15},
		{wide.Num{Low: 1<<63 - 1}, greatest},
		{wide.Num{High: -1, Low: 1 << 63}, least},
		{wide.Num{High: -1, Low: 1<<63 + 1}, least + 1},
	} {
		if got, e := wide.Int(c.a); got != c.want || e != api.OK {
			t.Errorf("Int(%v): %d, %d, want %d, %d", c.a, got, e, c.want, api.OK)
		}
	}
}

func TestIntOfWhatIsTooGreat(t *testing.T) {
	for _, a := range []wide.Num{
		{Low: 1 << 63}, {Low: 1<<63 + 1}, {Low: ones}, // 2^63 and more
		{High: -1, Low: 1<<63 - 1}, {High: -1, Low: 1}, {High: -1}, // -2^63 - 1 and less
		{High: 1}, {High: 1, Low: 5}, {High: 1, Low: ones}, {High: -2}, {High: -2, Low: 5}, {High: -2, Low: ones},
		{High: 1 << 62, Low: 7}, {High: -1 << 62, Low: 1 << 63}, {High: greatest}, {High: least, Low: ones}, top, bottom,
	} {
		if got, e := wide.Int(a); got != 0 || e != api.ErrOver {
			t.Errorf("Int(%v): %d, %d, want 0, %d", a, got, e, api.ErrOver)
		}
	}
}

func TestIntOfAll(t *testing.T) {
	for _, a := range wideNumbers() {
		got, e := wide.Int(a)
		if n := great(a); n.IsInt64() && (got != n.Int64() || e != api.OK) || !n.IsInt64() && (got != 0 || e != api.ErrOver) {
			t.Errorf("Int(%v): %d, %d", a, got, e)
		}
	}
}

func TestAdd(t *testing.T) {
	for _, c := range []struct {
		a, b, want wide.Num
		e          api.Errno
	}{
		{wide.Of(3), wide.Of(4), wide.Of(7), api.OK},
		{wide.Of(3), wide.Of(-5), wide.Of(-2), api.OK},
		{wide.Of(-3), wide.Of(-5), wide.Of(-8), api.OK},
		{wide.Of(-1), wide.Of(1), wide.Num{}, api.OK},
		{wide.Of(greatest), wide.Of(1), wide.Num{Low: 1 << 63}, api.OK},
		{wide.Of(least), wide.Of(-1), wide.Num{High: -1, Low: 1<<63 - 1}, api.OK},
		{wide.Of(least), wide.Of(least), wide.Num{High: -1}, api.OK},
		{wide.Num{Low: ones}, wide.Of(1), wide.Num{High: 1}, api.OK},
		{wide.Num{Low: ones}, wide.Num{Low: ones}, wide.Num{High: 1, Low: ones - 1}, api.OK},
		{wide.Num{High: 1, Low: 2}, wide.Num{High: 3, Low: 4}, wide.Num{High: 4, Low: 6}, api.OK},
		{wide.Num{High: -5, Low: 1 << 63}, wide.Num{High: 2, Low: 1 << 63}, wide.Num{High: -2}, api.OK},
		{top, bottom, wide.Of(-1), api.OK},
		{top, wide.Num{}, top, api.OK},
		{bottom, wide.Num{}, bottom, api.OK},
		{wide.Num{High: greatest, Low: ones - 1}, wide.Of(1), top, api.OK},
		{wide.Num{High: greatest, Low: ones - 5}, wide.Of(4), wide.Num{High: greatest, Low: ones - 1}, api.OK},
		{wide.Num{High: 1 << 62}, wide.Num{High: 1<<62 - 1, Low: ones}, top, api.OK},
		{wide.Num{High: least, Low: 1}, wide.Of(-1), bottom, api.OK},
		{wide.Num{High: -1 << 62}, wide.Num{High: -1 << 62}, bottom, api.OK},
		{wide.Num{High: -1 << 62, Low: 1}, wide.Num{High: -1 << 62}, wide.Num{High: least, Low: 1}, api.OK},
		{top, wide.Of(1), wide.Num{}, api.ErrOver},
		{top, top, wide.Num{}, api.ErrOver},
		{wide.Num{High: 1 << 62}, wide.Num{High: 1 << 62}, wide.Num{}, api.ErrOver},
		{wide.Num{High: greatest, Low: 1 << 63}, wide.Num{Low: 1 << 63}, wide.Num{}, api.ErrOver}, // by the carry alone
		{bottom, wide.Of(-1), wide.Num{}, api.ErrOver},
		{bottom, bottom, wide.Num{}, api.ErrOver},
		{wide.Num{High: -1 << 62}, wide.Num{High: -1<<62 - 1, Low: ones}, wide.Num{}, api.ErrOver}, // by 1
	} {
		if got, e := wide.Add(c.a, c.b); got != c.want || e != c.e {
			t.Errorf("Add(%v, %v): %v, %d, want %v, %d", c.a, c.b, got, e, c.want, c.e)
		}
	}
}

func TestSub(t *testing.T) {
	for _, c := range []struct {
		a, b, want wide.Num
		e          api.Errno
	}{
		{wide.Of(7), wide.Of(4), wide.Of(3), api.OK},
		{wide.Of(3), wide.Of(-5), wide.Of(8), api.OK},
		{wide.Of(-3), wide.Of(5), wide.Of(-8), api.OK},
		{wide.Of(-3), wide.Of(-5), wide.Of(2), api.OK},
		{wide.Num{}, wide.Of(1), wide.Of(-1), api.OK},
		{wide.Num{}, wide.Of(least), wide.Num{Low: 1 << 63}, api.OK},
		{wide.Of(least), wide.Of(1), wide.Num{High: -1, Low: 1<<63 - 1}, api.OK},
		{wide.Num{High: 1}, wide.Of(1), wide.Num{Low: ones}, api.OK},
		{wide.Num{High: 5, Low: 1}, wide.Num{High: 2, Low: 2}, wide.Num{High: 2, Low: ones}, api.OK},
		{wide.Num{High: 5, Low: 2}, wide.Num{High: 2, Low: 1}, wide.Num{High: 3, Low: 1}, api.OK},
		{wide.Num{High: 2}, wide.Num{High: 2, Low: ones}, wide.Num{High: -1, Low: 1}, api.OK},
		{top, top, wide.Num{}, api.OK},
		{top, wide.Num{}, top, api.OK},
		{top, wide.Of(1), wide.Num{High: greatest, Low: ones - 1}, api.OK},
		{wide.Num{}, top, wide.Num{High: least, Low: 1}, api.OK},
		{wide.Of(-1), top, bottom, api.OK},
		{wide.Of(-1), wide.Num{High: greatest, Low: ones - 1}, wide.Num{High: least, Low: 1}, api.OK},
		{wide.Num{High: least, Low: 1}, wide.Of(1), bottom, api.OK},
		{wide.Num{High: greatest, Low: ones - 1}, wide.Of(-1), top, api.OK},
		{bottom, bottom, wide.Num{}, api.OK},
		{bottom, wide.Num{}, bottom, api.OK},
		{bottom, wide.Of(-1), wide.Num{High: least, Low: 1}, api.OK},
		{wide.Of(-1), bottom, top, api.OK},
		{wide.Of(-2), bottom, wide.Num{High: greatest, Low: ones - 1}, api.OK},
		{wide.Num{}, bottom, wide.Num{}, api.ErrOver}, // what is as far from 0 as the least is no wide number
		{wide.Of(1), bottom, wide.Num{}, api.ErrOver},
		{top, bottom, wide.Num{}, api.ErrOver},
		{bottom, top, wide.Num{}, api.ErrOver},
		{top, wide.Of(-1), wide.Num{}, api.ErrOver},
		{bottom, wide.Of(1), wide.Num{}, api.ErrOver},
		{wide.Of(-2), top, wide.Num{}, api.ErrOver},
		{wide.Num{High: least, Low: 5}, wide.Of(6), wide.Num{}, api.ErrOver}, // by the borrow alone
		{wide.Num{High: 1 << 62}, wide.Num{High: -1 << 62}, wide.Num{}, api.ErrOver},
	} {
		if got, e := wide.Sub(c.a, c.b); got != c.want || e != c.e {
			t.Errorf("Sub(%v, %v): %v, %d, want %v, %d", c.a, c.b, got, e, c.want, c.e)
		}
	}
}

func TestCmp(t *testing.T) {
	rising := []wide.Num{ // each one less than all behind it
		bottom, {High: least, Low: 1}, {High: least, Low: 1<<63 - 1}, {High: least, Low: 1 << 63}, {High: least, Low: ones},
		{High: -5, Low: 9}, {High: -2, Low: ones}, {High: -1}, {High: -1, Low: 1<<63 - 1}, wide.Of(least), wide.Of(least + 1), wide.Of(-2), wide.Of(-1),
		{}, wide.Of(1), wide.Of(2), wide.Of(greatest), {Low: 1 << 63}, {Low: 1<<63 + 1}, {Low: ones},
		{High: 1}, {High: 1, Low: 5}, {High: 2, Low: 4}, {High: greatest}, {High: greatest, Low: 1<<63 - 1}, {High: greatest, Low: 1 << 63}, top,
	}
	for i, a := range rising {
		for j, b := range rising {
			want := 0
			if i < j {
				want = -1
			} else if i > j {
				want = 1
			}
			if got := wide.Cmp(a, b); got != want {
				t.Errorf("Cmp(%v, %v): %d, want %d", a, b, got, want)
			}
		}
	}
}

func TestSumsOfAll(t *testing.T) {
	for _, a := range wideNumbers() {
		for _, b := range wideNumbers() {
			sum, e := fitting(new(big.Int).Add(great(a), great(b)))
			if got, f := wide.Add(a, b); got != sum || f != e {
				t.Fatalf("Add(%v, %v): %v, %d, want %v, %d", a, b, got, f, sum, e)
			}
			less, e := fitting(new(big.Int).Sub(great(a), great(b)))
			if got, f := wide.Sub(a, b); got != less || f != e {
				t.Fatalf("Sub(%v, %v): %v, %d, want %v, %d", a, b, got, f, less, e)
			}
			if got, want := wide.Cmp(a, b), great(a).Cmp(great(b)); got != want {
				t.Fatalf("Cmp(%v, %v): %d, want %d", a, b, got, want)
			}
		}
	}
}

// P4.2

func TestTimes(t *testing.T) {
	for _, c := range []struct {
		a, b int64
		want wide.Num
	}{
		{-3, 5, wide.Of(-15)},
		{3, 5, wide.Of(15)},
		{-3, -5, wide.Of(15)},
		{1000000007, 998244353, wide.Of(998244359987710471)},
		{1 << 32, 1 << 32, wide.Num{High: 1}},
		{-1 << 32, 1 << 32, wide.Num{High: -1}},
		{1<<32 + 1, 1<<32 + 1, wide.Num{High: 1, Low: 1<<33 + 1}},
		{least, least, wide.Num{High: 1 << 62}},
		{least, -1, wide.Num{Low: 1 << 63}},
		{least, 0, wide.Num{}},
		{least, 1, wide.Of(least)},
		{least, greatest, wide.Num{High: -1 << 62, Low: 1 << 63}},
		{-1, -1, wide.Of(1)},
		{-1, 0, wide.Num{}},
		{-1, 1, wide.Of(-1)},
		{-1, greatest, wide.Of(-greatest)},
		{0, 0, wide.Num{}},
		{0, 1, wide.Num{}},
		{0, greatest, wide.Num{}},
		{1, 1, wide.Of(1)},
		{1, greatest, wide.Of(greatest)},
		{greatest, greatest, wide.Num{High: 1<<62 - 1, Low: 1}},
		{greatest, 2, wide.Num{Low: ones - 1}},
		{least, 2, wide.Num{High: -1}},
	} {
		if got := wide.Times(c.a, c.b); got != c.want {
			t.Errorf("Times(%d, %d): %v, want %v", c.a, c.b, got, c.want)
		}
		if got := wide.Times(c.b, c.a); got != c.want {
			t.Errorf("Times(%d, %d): %v, want %v", c.b, c.a, got, c.want)
		}
	}
}

func TestTimesOfAll(t *testing.T) {
	for _, a := range numbers() {
		for _, b := range numbers() {
			want, _ := fitting(new(big.Int).Mul(big.NewInt(a), big.NewInt(b)))
			if got := wide.Times(a, b); got != want {
				t.Fatalf("Times(%d, %d): %v, want %v", a, b, got, want)
			}
		}
	}
}

func TestDiv(t *testing.T) {
	for _, c := range []struct {
		a    wide.Num
		by   int64
		part wide.Num
		left int64
	}{
		{wide.Of(15), 4, wide.Of(3), 3},
		{wide.Of(16), 4, wide.Of(4), 0},
		{wide.Of(-15), 4, wide.Of(-4), 1}, // down, not towards 0
		{wide.Of(-16), 4, wide.Of(-4), 0},
		{wide.Of(-17), 4, wide.Of(-5), 3},
		{wide.Of(-1), 4, wide.Of(-1), 3},
		{wide.Of(-1), 1, wide.Of(-1), 0},
		{wide.Of(-1), greatest, wide.Of(-1), greatest - 1},
		{wide.Num{}, 1, wide.Num{}, 0},
		{wide.Num{}, 7, wide.Num{}, 0},
		{wide.Num{}, greatest, wide.Num{}, 0},
		{wide.Of(3), 5, wide.Num{}, 3},
		{wide.Of(greatest), greatest, wide.Of(1), 0},
		{wide.Of(greatest - 1), greatest, wide.Num{}, greatest - 1},
		{wide.Of(least), greatest, wide.Of(-2), greatest - 1},
		{wide.Num{Low: ones}, greatest, wide.Of(2), 1},
		{wide.Num{High: 1}, 2, wide.Num{Low: 1 << 63}, 0},
		{wide.Num{High: 1}, 1 << 32, wide.Of(1 << 32), 0},
		{wide.Num{High: 1}, 10, wide.Of(1844674407370955161), 6},
		{wide.Num{High: -1}, 10, wide.Of(-1844674407370955162), 4},
		{wide.Num{High: 7, Low: 5}, 7, wide.Num{High: 1}, 5},
		{top, 1, top, 0},
		{top, 2, wide.Num{High: 1<<62 - 1, Low: ones}, 1},
		{top, greatest, wide.Num{High: 1, Low: 2}, 1},
		{bottom, 1, bottom, 0},
		{bottom, 2, wide.Num{High: -1 << 62}, 0},
		{bottom, greatest, wide.Num{High: -2, Low: ones - 2}, greatest - 2},
		{wide.Num{High: least, Low: 1}, 2, wide.Num{High: -1 << 62}, 1},
	} {
		if part, left, e := wide.Div(c.a, c.by); part != c.part || left != c.left || e != api.OK {
			t.Errorf("Div(%v, %d): %v, %d, %d, want %v, %d, %d", c.a, c.by, part, left, e, c.part, c.left, api.OK)
		}
	}
}

func TestDivOfAll(t *testing.T) {
	for _, a := range wideNumbers() {
		for _, by := range parts() {
			part, left := new(big.Int).DivMod(great(a), big.NewInt(by), new(big.Int)) // what is left is never below 0
			want, _ := fitting(part)
			if got, rest, e := wide.Div(a, by); got != want || rest != left.Int64() || e != api.OK {
				t.Fatalf("Div(%v, %d): %v, %d, %d, want %v, %d, %d", a, by, got, rest, e, want, left, api.OK)
			}
		}
	}
}

func TestDivByWhatIsBelow1(t *testing.T) {
	for _, a := range wideNumbers() {
		for _, by := range wrongParts() {
			if part, left, e := wide.Div(a, by); part != (wide.Num{}) || left != 0 || e != api.ErrArg {
				t.Errorf("Div(%v, %d): %v, %d, %d, want 0, 0, %d", a, by, part, left, e, api.ErrArg)
			}
		}
	}
}

func TestPart(t *testing.T) {
	for _, c := range []struct {
		a, b, by, want int64
		e              api.Errno
	}{
		{1 << 62, 8, 16, 1 << 61, api.OK}, // the product doesn't fit
		{-1 << 62, 8, 16, -1 << 61, api.OK},
		{7, 3, 2, 10, api.OK},
		{-7, 3, 2, -11, api.OK}, // down, not towards 0
		{7, -3, 2, -11, api.OK},
		{-7, -3, 2, 10, api.OK},
		{-7, 4, 2, -14, api.OK},
		{1, 1, greatest, 0, api.OK},
		{1, -1, greatest, -1, api.OK},
		{0, least, 5, 0, api.OK},
		{5000, 1000000, 1000000000, 5, api.OK},
		{5001, -1000000, 1000000000, -6, api.OK},
		{greatest, 999999999, 1000000000, 9223372027631403770, api.OK},
		{least, 999999999, 1000000000, -9223372027631403772, api.OK}, // what is cut off goes down
		{greatest, greatest, greatest, greatest, api.OK},
		{greatest, least, greatest, least, api.OK},
		{least, greatest, greatest, least, api.OK},
		{least, least, greatest, 0, api.ErrOver},
		{greatest, greatest, 1, 0, api.ErrOver},
		{least, greatest, 2, 0, api.ErrOver},
	} {
		if got, e := wide.Part(c.a, c.b, c.by); got != c.want || e != c.e {
			t.Errorf("Part(%d, %d, %d): %d, %d, want %d, %d", c.a, c.b, c.by, got, e, c.want, c.e)
		}
	}
}

func TestPartAboutTheEnds(t *testing.T) {
	const third = math.MaxUint64 / 3           // three times this is 2^64 - 1
	const long, short = 67280421310721, 274177 // their product is 2^64 + 1
	for _, c := range []struct {
		a, b, by, want int64
		e              api.Errno
	}{
		{greatest - 1, 1, 1, greatest - 1, api.OK},
		{greatest, 1, 1, greatest, api.OK},
		{greatest, 5, 5, greatest, api.OK},
		{third, 3, 2, greatest, api.OK}, // half a step below 2^63
		{1 << 62, 2, 1, 0, api.ErrOver}, // 2^63
		{1 << 62, 6, 3, 0, api.ErrOver},
		{least, -1, 1, 0, api.ErrOver},
		{long, short, 2, 0, api.ErrOver},
		{greatest, -1, 1, least + 1, api.OK},
		{least, 1, 1, least, api.OK},
		{-1 << 62, 2, 1, least, api.OK},
		{-1 << 62, 6, 3, least, api.OK},
		{-third, 3, 2, least, api.OK},     // half a step above -2^63
		{-long, short, 2, 0, api.ErrOver}, // half a step below it
		{least, 2, 1, 0, api.ErrOver},
		{least, greatest, greatest - 1, 0, api.ErrOver}, // less than 2 below it
	} {
		if got, e := wide.Part(c.a, c.b, c.by); got != c.want || e != c.e {
			t.Errorf("Part(%d, %d, %d): %d, %d, want %d, %d", c.a, c.b, c.by, got, e, c.want, c.e)
		}
	}
}

func TestPartOfAll(t *testing.T) {
	for _, a := range numbers() {
		for _, b := range numbers() {
			product := new(big.Int).Mul(big.NewInt(a), big.NewInt(b))
			for _, by := range parts() {
				part, _ := new(big.Int).DivMod(product, big.NewInt(by), new(big.Int))
				want, wrong := int64(0), api.ErrOver
				if part.IsInt64() {
					want, wrong = part.Int64(), api.OK
				}
				if got, e := wide.Part(a, b, by); got != want || e != wrong {
					t.Fatalf("Part(%d, %d, %d): %d, %d, want %d, %d", a, b, by, got, e, want, wrong)
				}
			}
		}
	}
}

func TestPartByWhatIsBelow1(t *testing.T) {
	for _, c := range [][2]int64{{1, 1}, {0, 0}, {-7, 3}, {greatest, greatest}, {least, least}, {least, greatest}} { // ErrArg comes ahead of ErrOver
		for _, by := range wrongParts() {
			if got, e := wide.Part(c[0], c[1], by); got != 0 || e != api.ErrArg {
				t.Errorf("Part(%d, %d, %d): %d, %d, want 0, %d", c[0], c[1], by, got, e, api.ErrArg)
			}
		}
	}
}

// P4.3

func TestSumsTurnedAbout(t *testing.T) {
	for _, a := range wideNumbers() {
		for _, b := range wideNumbers() {
			one, e := wide.Add(a, b)
			other, f := wide.Add(b, a)
			if one != other || e != f {
				t.Fatalf("Add(%v, %v): %v, %d; turned about: %v, %d", a, b, one, e, other, f)
			}
		}
	}
}

func TestWhatWasAddedIsTakenOff(t *testing.T) {
	sums, differences := 0, 0
	for _, a := range wideNumbers() {
		for _, b := range wideNumbers() {
			if sum, e := wide.Add(a, b); e == api.OK {
				sums++
				if got, f := wide.Sub(sum, b); got != a || f != api.OK {
					t.Fatalf("%v and %v, less that: %v, %d", a, b, got, f)
				}
			}
			if less, e := wide.Sub(a, b); e == api.OK {
				differences++
				if got, f := wide.Add(less, b); got != a || f != api.OK {
					t.Fatalf("%v less %v, and that: %v, %d", a, b, got, f)
				}
			}
		}
	}
	if all := len(wideNumbers()) * len(wideNumbers()); sums < all/2 || differences < all/2 {
		t.Errorf("of %d, there are but %d sums and %d differences", all, sums, differences)
	}
}

func TestNumbersThereAndBack(t *testing.T) {
	for _, n := range numbers() {
		if got, e := wide.Int(wide.Of(n)); got != n || e != api.OK {
			t.Errorf("Int(Of(%d)): %d, %d", n, got, e)
		}
	}
}

func TestWhatWasPartedComesBack(t *testing.T) {
	for _, a := range wideNumbers() {
		for _, by := range parts() {
			part, left, e := wide.Div(a, by)
			if e != api.OK || left < 0 || left >= by {
				t.Fatalf("Div(%v, %d): %d is left, %d", a, by, left, e)
			}
			whole := new(big.Int).Mul(great(part), big.NewInt(by))
			whole.Add(whole, big.NewInt(left))
			if whole.Cmp(great(a)) != 0 {
				t.Fatalf("Div(%v, %d): %v and %d, which make %s", a, by, part, left, whole)
			}
		}
	}
}

// The same by the package's own sums and products, where the part fits.
func TestWhatWasPartedComesBackByTimes(t *testing.T) {
	back := 0
	for _, a := range wideNumbers() {
		for _, by := range parts() {
			part, left, _ := wide.Div(a, by)
			n, e := wide.Int(part)
			if e != api.OK {
				continue
			}
			back++
			if got, f := wide.Add(wide.Times(n, by), wide.Of(left)); got != a || f != api.OK {
				t.Fatalf("Div(%v, %d): %d and %d, which make %v, %d", a, by, n, left, got, f)
			}
		}
	}
	if back < 1000 {
		t.Errorf("but %d parts fit", back)
	}
}

func TestProductsPartedComeBack(t *testing.T) {
	for _, n := range numbers() {
		for _, by := range parts() {
			if part, left, e := wide.Div(wide.Times(n, by), by); part != wide.Of(n) || left != 0 || e != api.OK {
				t.Fatalf("%d times %d, parted by it: %v, %d, %d", n, by, part, left, e)
			}
			if got, e := wide.Part(n, by, by); got != n || e != api.OK {
				t.Fatalf("Part(%d, %d, %d): %d, %d", n, by, by, got, e)
			}
		}
	}
}
