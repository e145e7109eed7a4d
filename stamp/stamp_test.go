package stamp_test

import (
	"math"
	"math/big"
	"testing"

	"timeball/api"
	"timeball/stamp"
	"timeball/wide"
)

const (
	least    = math.MinInt64
	greatest = math.MaxInt64
	ones     = math.MaxUint64 // a Low part, or a stamp, of which all bits are 1
	half     = 1 << 63        // half an era
	second   = 1 << 32
	million  = 1000000
)

var (
	bottom = wide.Num{High: least}
	top    = wide.Num{High: greatest, Low: ones}
)

// great tells a wide number as the library's, which never is too great.
func great(a wide.Num) *big.Int {
	n := new(big.Int).Lsh(big.NewInt(a.High), 64)
	return n.Add(n, new(big.Int).SetUint64(a.Low))
}

// fitting tells the library's number as a wide one, or that it is none.
func fitting(n *big.Int) (wide.Num, api.Errno) {
	if n.Cmp(great(bottom)) < 0 || n.Cmp(great(top)) > 0 {
		return wide.Num{}, api.ErrOver
	}
	high := new(big.Int).Rsh(n, 64) // it rounds down, also below 0
	low := new(big.Int).Sub(n, new(big.Int).Lsh(high, 64))
	return wide.Num{High: high.Int64(), Low: low.Uint64()}, api.OK
}

// span tells the library's number as a span, or that it is none.
func span(n *big.Int) (int64, api.Errno) {
	if !n.IsInt64() {
		return 0, api.ErrOver
	}
	return n.Int64(), api.OK
}

// part tells a times b by by, rounded down, by the library's numbers.
func part(a, b, by int64) *big.Int {
	n := new(big.Int).Mul(big.NewInt(a), big.NewInt(b))
	return n.Div(n, big.NewInt(by)) // by is above 0, so this rounds down
}

// nearest tells a stamp's moment near a pivot, by the words of the document: the moments about the pivot are gone
// through, from the earliest on, and each one takes the place of one that isn't nearer.
func nearest(s api.Stamp, pivot wide.Num) *big.Int {
	era := new(big.Int).Lsh(big.NewInt(1), 64)
	moment := great(wide.Num{High: pivot.High, Low: uint64(s)})
	moment.Sub(moment, new(big.Int).Mul(era, big.NewInt(3)))
	var found, away *big.Int
	for range 7 {
		far := new(big.Int).Sub(moment, great(pivot))
		far.Abs(far)
		if away == nil || far.Cmp(away) <= 0 {
			found, away = new(big.Int).Set(moment), far
		}
		moment.Add(moment, era)
	}
	return found
}

// drawn tells so many words of 64 bits that look like drawn ones, and are the same each time.
func drawn(count int) []uint64 {
	told := make([]uint64, count)
	n := uint64(count)
	for i := range told {
		n = n*6364136223846793005 + 1442695040888963407
		told[i] = n ^ n>>29
	}
	return told
}

// stamps are such as lie about an era's turn and its middle, and ordinary ones.
func stamps() []api.Stamp {
	told := []api.Stamp{0, 1, 2, 5, second - 1, second, second + 1, 1 << 62, half - 2, half - 1, half, half + 1, half + 2, 3 << 62, ones - 5, ones - 1, ones}
	for i, word := range drawn(16) {
		told = append(told, api.Stamp(word>>(i*3)))
	}
	return told
}

// spans are such as lie about 0, about a short span's ends, about a second, and about the ends of 64 bits, and ordinary ones.
func spans() []int64 {
	told := []int64{0, 1, 2, 3, 4294, 4295, million - 1, million, million + 1, 1<<16 - 1, 1 << 16, 1<<16 + 1, 1<<31 - 1, 1 << 31,
		second - 1, second, second + 1, second * 1000, (1<<32 - 1) << 16, (1<<32-1)<<16 + 1, 1 << 48, half/second*million - 1, half / second * million, half/second*million + 1, 1 << 62, greatest - 1, greatest}
	for _, n := range told {
		told = append(told, -n)
	}
	for i, word := range drawn(30) {
		told = append(told, int64(word)>>(i*2))
	}
	return append(told, least, least+1)
}

// moments are such as lie about 0, about eras' turns and middles, and about the ends of wide numbers, and ordinary ones.
func moments() []wide.Num {
	var told []wide.Num
	lows := []uint64{0, 1, 2, 1 << 32, half - 1, half, half + 1, ones - 1, ones}
	for _, high := range []int64{least, least + 1, -1 << 40, -2, -1, 0, 1, 2, 1 << 40, greatest - 1, greatest} {
		for _, low := range lows {
			told = append(told, wide.Num{High: high, Low: low})
		}
	}
	words := drawn(40)
	for i := 0; i < len(words); i += 2 {
		told = append(told, wide.Num{High: int64(words[i]) >> (i * 3 / 2), Low: words[i+1]})
	}
	return told
}

// P5.1

func TestDiff(t *testing.T) {
	for _, c := range []struct {
		a, b api.Stamp
		want int64
	}{
		{1, ones, 2}, // over the turn of an era
		{ones, 1, -2},
		{0, ones, 1},
		{ones, 0, -1},
		{0, 0, 0},
		{ones, ones, 0},
		{half, half, 0},
		{7, 4, 3},
		{4, 7, -3},
		{1, 0, 1},
		{0, 1, -1},
		{half - 1, 0, greatest},
		{0, half - 1, -greatest},
		{half, 0, least},
		{0, half, least}, // half an era is below 0 either way
		{half, 1, greatest},
		{1, half, -greatest},
		{half, half - 1, 1},
		{half - 1, half, -1},
		{half - 1, ones, least},
		{ones, half - 1, least},
		{half, ones, -greatest},
		{ones, half, greatest},
		{5 * second, 3 * second, 2 * second},
	} {
		if got := stamp.Diff(c.a, c.b); got != c.want {
			t.Errorf("Diff(%d, %d): %d, want %d", c.a, c.b, got, c.want)
		}
	}
}

func TestAdd(t *testing.T) {
	for _, c := range []struct {
		a    api.Stamp
		span int64
		want api.Stamp
	}{
		{4, 3, 7},
		{7, -3, 4},
		{0, 0, 0},
		{0, 1, 1},
		{0, -1, ones},
		{0, greatest, half - 1},
		{0, least, half},
		{1, 0, 1},
		{1, -1, 0},
		{1, -2, ones},
		{1, greatest, half},
		{1, least, half + 1},
		{half - 1, 0, half - 1},
		{half - 1, 1, half},
		{half - 1, -1, half - 2},
		{half - 1, greatest, ones - 1},
		{half - 1, least, ones},
		{half, 0, half},
		{half, 1, half + 1},
		{half, -1, half - 1},
		{half, greatest, ones},
		{half, least, 0},
		{ones, 0, ones},
		{ones, 1, 0},
		{ones, 2, 1},
		{ones, -1, ones - 1},
		{ones, greatest, half - 2},
		{ones, least, half - 1},
		{3 * second, 2 * second, 5 * second},
	} {
		if got := stamp.Add(c.a, c.span); got != c.want {
			t.Errorf("Add(%d, %d): %d, want %d", c.a, c.span, got, c.want)
		}
	}
}

func TestFold(t *testing.T) {
	for _, c := range []struct {
		m    wide.Num
		want api.Stamp
	}{
		{wide.Num{}, 0},
		{wide.Of(5), 5},
		{wide.Of(-1), ones},
		{wide.Of(-5), ones - 4},
		{wide.Of(greatest), half - 1},
		{wide.Of(least), half},
		{wide.Num{Low: ones}, ones},
		{wide.Num{High: 1}, 0},
		{wide.Num{High: 1, Low: 5}, 5},
		{wide.Num{High: -1}, 0},
		{wide.Num{High: -2, Low: 7}, 7},
		{wide.Num{High: -1, Low: half - 1}, half - 1},
		{bottom, 0},
		{wide.Num{High: least, Low: 1}, 1},
		{top, ones},
		{wide.Num{High: greatest, Low: ones - 1}, ones - 1},
	} {
		if got := stamp.Fold(c.m); got != c.want {
			t.Errorf("Fold(%v): %d, want %d", c.m, got, c.want)
		}
	}
}

func TestFoldOfAll(t *testing.T) {
	era := new(big.Int).Lsh(big.NewInt(1), 64)
	for _, m := range moments() {
		want := new(big.Int).Mod(great(m), era).Uint64()
		if got := stamp.Fold(m); got != api.Stamp(want) {
			t.Errorf("Fold(%v): %d, want %d", m, got, want)
		}
	}
}

type nearCase struct {
	s           api.Stamp
	pivot, want wide.Num
	e           api.Errno
}

func (c nearCase) check(t *testing.T) {
	t.Helper()
	if got, e := stamp.Near(c.s, c.pivot); got != c.want || e != c.e {
		t.Errorf("Near(%d, %v): %v, %d, want %v, %d", c.s, c.pivot, got, e, c.want, c.e)
	}
}

func TestNear(t *testing.T) {
	for _, c := range []nearCase{
		{5, wide.Num{High: 1}, wide.Num{High: 1, Low: 5}, api.OK},
		{ones - 4, wide.Num{High: 1}, wide.Num{Low: ones - 4}, api.OK},
		{3, wide.Of(3), wide.Of(3), api.OK},
		{100, wide.Of(90), wide.Of(100), api.OK},
		{80, wide.Of(90), wide.Of(80), api.OK},
		{0, wide.Num{}, wide.Num{}, api.OK},
		{1, wide.Num{}, wide.Of(1), api.OK},
		{half - 1, wide.Num{}, wide.Of(greatest), api.OK},
		{half + 1, wide.Num{}, wide.Of(least + 1), api.OK},
		{ones, wide.Num{}, wide.Of(-1), api.OK},
		{0, wide.Of(1), wide.Num{}, api.OK},
		{half + 1, wide.Of(2), wide.Num{Low: half + 1}, api.OK},
		{ones, wide.Of(1), wide.Of(-1), api.OK},
		{0, wide.Of(-1), wide.Num{}, api.OK},
		{1, wide.Of(-1), wide.Of(1), api.OK},
		{half - 2, wide.Of(-1), wide.Of(greatest - 1), api.OK},
		{half, wide.Of(-1), wide.Of(least), api.OK},
		{ones, wide.Of(-1), wide.Of(-1), api.OK},
		{9, wide.Num{High: 1 << 40, Low: ones}, wide.Num{High: 1<<40 + 1, Low: 9}, api.OK},
		{ones, wide.Num{High: 1 << 40, Low: 9}, wide.Num{High: 1<<40 - 1, Low: ones}, api.OK},
		{9, wide.Num{High: -1 << 40, Low: ones}, wide.Num{High: -1<<40 + 1, Low: 9}, api.OK},
		{ones, wide.Num{High: -1 << 40, Low: 9}, wide.Num{High: -1<<40 - 1, Low: ones}, api.OK},
		{half, wide.Num{High: -1 << 40, Low: 9}, wide.Num{High: -1 << 40, Low: half}, api.OK},
	} {
		c.check(t)
	}
}

func TestNearOfTwoAsNear(t *testing.T) {
	for _, c := range []nearCase{ // the later one
		{half, wide.Num{}, wide.Num{Low: half}, api.OK},
		{0, wide.Num{Low: half}, wide.Num{High: 1}, api.OK},
		{0, wide.Num{High: -1, Low: half}, wide.Num{}, api.OK},
		{half + 1, wide.Of(1), wide.Num{Low: half + 1}, api.OK},
		{half - 1, wide.Of(-1), wide.Of(greatest), api.OK},
		{1, wide.Num{Low: half + 1}, wide.Num{High: 1, Low: 1}, api.OK},
		{ones, wide.Num{Low: half - 1}, wide.Num{Low: ones}, api.OK},
		{half, wide.Num{High: 1 << 40}, wide.Num{High: 1 << 40, Low: half}, api.OK},
		{half, wide.Num{High: -1 << 40}, wide.Num{High: -1 << 40, Low: half}, api.OK},
		{half, bottom, wide.Num{High: least, Low: half}, api.OK}, // the earlier one is no wide number
		{ones, wide.Num{High: greatest, Low: half - 1}, top, api.OK},
		{0, wide.Num{High: greatest, Low: half}, wide.Num{}, api.ErrOver}, // the earlier one would be one
		{half - 1, top, wide.Num{}, api.ErrOver},
	} {
		c.check(t)
	}
}

func TestNearAtTheEnds(t *testing.T) {
	for _, c := range []nearCase{
		{0, bottom, bottom, api.OK},
		{1, bottom, wide.Num{High: least, Low: 1}, api.OK},
		{half - 1, bottom, wide.Num{High: least, Low: half - 1}, api.OK},
		{half + 1, bottom, wide.Num{}, api.ErrOver},
		{ones, bottom, wide.Num{}, api.ErrOver},
		{0, wide.Num{High: least, Low: 1}, bottom, api.OK},
		{ones, wide.Num{High: least, Low: 1}, wide.Num{}, api.ErrOver},
		{0, wide.Num{High: least, Low: half - 1}, bottom, api.OK},
		{1, wide.Num{High: least, Low: half - 1}, wide.Num{High: least, Low: 1}, api.OK},
		{ones, wide.Num{High: least, Low: half - 1}, wide.Num{High: least, Low: ones}, api.OK}, // as near as what is no wide number
		{ones, wide.Num{High: least, Low: half - 2}, wide.Num{}, api.ErrOver},
		{ones, top, top, api.OK},
		{ones - 1, top, wide.Num{High: greatest, Low: ones - 1}, api.OK},
		{half, top, wide.Num{High: greatest, Low: half}, api.OK},
		{0, top, wide.Num{}, api.ErrOver},
		{1, top, wide.Num{}, api.ErrOver},
		{ones, wide.Num{High: greatest, Low: ones - 1}, top, api.OK},
		{0, wide.Num{High: greatest, Low: ones - 1}, wide.Num{}, api.ErrOver},
		{ones, wide.Num{High: greatest, Low: half}, top, api.OK},
		{ones - 1, wide.Num{High: greatest, Low: half}, wide.Num{High: greatest, Low: ones - 1}, api.OK},
		{0, wide.Num{High: greatest, Low: half - 1}, wide.Num{High: greatest}, api.OK},
		{0, wide.Num{High: greatest, Low: half + 1}, wide.Num{}, api.ErrOver},
	} {
		c.check(t)
	}
}

func TestNearOfAll(t *testing.T) {
	for _, s := range stamps() {
		for _, pivot := range moments() {
			want, e := fitting(nearest(s, pivot))
			nearCase{s, pivot, want, e}.check(t)
		}
	}
}

func TestSince(t *testing.T) {
	for _, c := range []struct {
		a, b wide.Num
		want int64
		e    api.Errno
	}{
		{wide.Of(9), wide.Of(5), 4, api.OK},
		{wide.Of(5), wide.Of(9), -4, api.OK},
		{wide.Num{}, wide.Num{}, 0, api.OK},
		{wide.Num{High: 1}, wide.Num{Low: ones}, 1, api.OK},
		{wide.Num{Low: ones}, wide.Num{High: 1}, -1, api.OK},
		{wide.Num{High: 1 << 50, Low: 7}, wide.Num{High: 1 << 50, Low: 2}, 5, api.OK},
		{wide.Of(greatest - 1), wide.Num{}, greatest - 1, api.OK},
		{wide.Of(greatest), wide.Num{}, greatest, api.OK},
		{wide.Num{Low: half}, wide.Num{}, 0, api.ErrOver},
		{wide.Num{Low: half}, wide.Of(1), greatest, api.OK},
		{wide.Of(greatest), wide.Of(-1), 0, api.ErrOver},
		{wide.Of(least + 1), wide.Num{}, least + 1, api.OK},
		{wide.Of(least), wide.Num{}, least, api.OK},
		{wide.Of(least), wide.Of(1), 0, api.ErrOver},
		{wide.Num{}, wide.Num{Low: half}, least, api.OK},
		{wide.Num{}, wide.Num{Low: half + 1}, 0, api.ErrOver},
		{wide.Num{}, wide.Of(least), 0, api.ErrOver},
		{wide.Num{High: 1}, wide.Num{}, 0, api.ErrOver}, // not its stamp's difference, 0
		{wide.Num{}, wide.Num{High: 1}, 0, api.ErrOver},
		{wide.Num{High: 1, Low: 5}, wide.Num{Low: 3}, 0, api.ErrOver},
		{top, top, 0, api.OK},
		{bottom, bottom, 0, api.OK},
		{top, wide.Num{High: greatest, Low: half}, greatest, api.OK},
		{top, wide.Num{High: greatest, Low: half - 1}, 0, api.ErrOver},
		{bottom, wide.Num{High: least, Low: half}, least, api.OK},
		{bottom, wide.Num{High: least, Low: half + 1}, 0, api.ErrOver},
		{top, wide.Of(-1), 0, api.ErrOver}, // from here on the difference is no wide number
		{wide.Num{}, bottom, 0, api.ErrOver},
		{bottom, wide.Of(1), 0, api.ErrOver},
		{top, bottom, 0, api.ErrOver}, // which wrapped round would be -1
		{bottom, top, 0, api.ErrOver}, // and 1
	} {
		if got, e := stamp.Since(c.a, c.b); got != c.want || e != c.e {
			t.Errorf("Since(%v, %v): %d, %d, want %d, %d", c.a, c.b, got, e, c.want, c.e)
		}
	}
}

func TestSinceOfAll(t *testing.T) {
	for _, a := range moments() {
		for _, b := range moments() {
			want, e := span(new(big.Int).Sub(great(a), great(b)))
			if got, f := stamp.Since(a, b); got != want || f != e {
				t.Fatalf("Since(%v, %v): %d, %d, want %d, %d", a, b, got, f, want, e)
			}
		}
	}
}

// P5.2

func TestShort(t *testing.T) {
	for span, want := range map[int64]uint32{
		0:                     0,
		1:                     1,
		1<<16 - 1:             1,
		1 << 16:               1,
		1<<16 + 1:             2,
		1 << 17:               2,
		1<<17 + 1:             3,
		second / 2:            1 << 15,
		second:                1 << 16,
		second + 1:            1<<16 + 1,
		1 << 47:               1 << 31,
		(1<<32 - 2) << 16:     math.MaxUint32 - 1,
		(1<<32-2)<<16 + 1:     math.MaxUint32,
		(1<<32-1)<<16 - 1:     math.MaxUint32,
		(1<<32 - 1) << 16:     math.MaxUint32, // the greatest that has 32 bits
		12345678 * 65536:      12345678,
		12345678*65536 - 9999: 12345678,
	} {
		if got, e := stamp.Short(span); got != want || e != api.OK {
			t.Errorf("Short(%d): %d, %d, want %d, %d", span, got, e, want, api.OK)
		}
	}
}

func TestShortOfWhatIsOutOfRange(t *testing.T) {
	for _, span := range []int64{
		-1, -2, -1 << 16, -second, -1 << 48, least + 1, least,
		(1<<32-1)<<16 + 1, 1<<48 - 1, 1 << 48, 1<<48 + 1, 1 << 49, 1 << 62, greatest - 1<<16, greatest - 1, greatest,
	} {
		if got, e := stamp.Short(span); got != 0 || e != api.ErrRange {
			t.Errorf("Short(%d): %d, %d, want 0, %d", span, got, e, api.ErrRange)
		}
	}
}

func TestLong(t *testing.T) {
	for short, want := range map[uint32]int64{
		0:                  0,
		1:                  1 << 16,
		2:                  1 << 17,
		1 << 16:            second,
		3 << 15:            second + second/2,
		1 << 31:            1 << 47,
		math.MaxUint32 - 1: (1<<32 - 2) << 16,
		math.MaxUint32:     (1<<32 - 1) << 16,
	} {
		if got := stamp.Long(short); got != want {
			t.Errorf("Long(%d): %d, want %d", short, got, want)
		}
	}
}

func TestShortIsTheLeastThatIsNoLess(t *testing.T) {
	for _, span := range spans() {
		short, e := stamp.Short(span)
		if e != api.OK {
			continue
		}
		if long := stamp.Long(short); long < span || long-span >= 1<<16 {
			t.Errorf("Short(%d): %d, which has %d ticks", span, short, long)
		}
	}
}

func TestMicros(t *testing.T) {
	for span, want := range map[int64]int64{
		0:               0,
		1:               0,
		4294:            0,
		4295:            1,
		second - 1:      million - 1,
		second:          million,
		second + 1:      million,
		second + 4295:   million + 1,
		second / 2:      million / 2,
		60 * second:     60 * million,
		-1:              -1, // down, not towards 0
		-4294:           -1,
		-4295:           -2,
		-second + 1:     -million,
		-second:         -million,
		-second - 1:     -million - 1,
		greatest:        half/second*million - 1,
		greatest - 4293: half/second*million - 1,
		greatest - 4294: half/second*million - 2,
		least:           -half / second * million,
		least + 1:       -half / second * million,
		least + 4294:    -half / second * million,
		least + 4295:    -half/second*million + 1,
	} {
		if got := stamp.Micros(span); got != want {
			t.Errorf("Micros(%d): %d, want %d", span, got, want)
		}
	}
}

func TestTicks(t *testing.T) {
	for micros, want := range map[int64]int64{
		0:                           0,
		1:                           4294,
		2:                           8589,
		-1:                          -4295, // down, not towards 0
		-2:                          -8590,
		million / 2:                 second / 2,
		million - 1:                 second - 4295,
		million:                     second,
		million + 1:                 second + 4294,
		-million:                    -second,
		60 * million:                60 * second,
		half/second*million - 1:     greatest - 4294, // the greatest that is a span
		half/second*million - 2:     greatest - 8589,
		-half/second*million + 1:    least + 4294,
		-half / second * million:    least, // the least
		half / second / 2 * million: 1 << 62,
	} {
		if got, e := stamp.Ticks(micros); got != want || e != api.OK {
			t.Errorf("Ticks(%d): %d, %d, want %d, %d", micros, got, e, want, api.OK)
		}
	}
}

func TestTicksOfWhatIsNoSpan(t *testing.T) {
	for _, micros := range []int64{
		half / second * million, half/second*million + 1, half / second * million * 2, 1 << 62, greatest - 1, greatest,
		-half/second*million - 1, -half/second*million - 2, -half / second * million * 2, -1 << 62, least + 1, least,
	} {
		if got, e := stamp.Ticks(micros); got != 0 || e != api.ErrOver {
			t.Errorf("Ticks(%d): %d, %d, want 0, %d", micros, got, e, api.ErrOver)
		}
	}
}

func TestMicrosAndTicksOfAll(t *testing.T) {
	for _, n := range spans() {
		if got, want := stamp.Micros(n), part(n, million, second); !want.IsInt64() || got != want.Int64() {
			t.Errorf("Micros(%d): %d, want %d", n, got, want)
		}
		want, e := span(part(n, second, million))
		if got, f := stamp.Ticks(n); got != want || f != e {
			t.Errorf("Ticks(%d): %d, %d, want %d, %d", n, got, f, want, e)
		}
	}
}

// P5.3

func TestWhatIsAddedIsTheDifference(t *testing.T) {
	for _, a := range stamps() {
		for _, span := range spans() {
			if got := stamp.Diff(stamp.Add(a, span), a); got != span {
				t.Errorf("Diff(Add(%d, %d), %d): %d", a, span, a, got)
			}
		}
		for _, b := range stamps() {
			if got := stamp.Add(b, stamp.Diff(a, b)); got != a {
				t.Errorf("Add(%d, Diff(%d, %d)): %d", b, a, b, got)
			}
		}
	}
}

func TestMomentComesBack(t *testing.T) {
	for _, m := range moments() {
		for _, away := range spans() {
			if away == least {
				continue // half an era
			}
			pivot, e := wide.Add(m, wide.Of(away))
			if e != api.OK {
				continue
			}
			if got, e := stamp.Near(stamp.Fold(m), pivot); got != m || e != api.OK {
				t.Fatalf("Near(Fold(%v), %v): %v, %d", m, pivot, got, e)
			}
		}
	}
}

func TestMomentHalfAnEraAway(t *testing.T) {
	for _, m := range moments() {
		if before, e := wide.Sub(m, wide.Num{Low: half}); e == api.OK { // of two the moment is the later one
			nearCase{stamp.Fold(m), before, m, api.OK}.check(t)
		}
		if behind, e := wide.Add(m, wide.Num{Low: half}); e == api.OK { // and here the earlier one
			want, over := wide.Add(m, wide.Num{High: 1})
			nearCase{stamp.Fold(m), behind, want, over}.check(t)
		}
	}
}

func TestMicrosOfTicks(t *testing.T) {
	for _, micros := range spans() {
		ticks, e := stamp.Ticks(micros)
		if e != api.OK {
			continue
		}
		// Both are rounded down, so that what was no whole number of ticks comes back one less.
		if got := stamp.Micros(ticks); got != micros && got != micros-1 {
			t.Errorf("Micros(Ticks(%d)): %d", micros, got)
		}
	}
}
