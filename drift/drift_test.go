package drift_test

import (
	"math"
	"math/big"
	"slices"
	"testing"

	"timeball/api"
	"timeball/drift"
)

const (
	least    = math.MinInt64
	greatest = math.MaxInt64
	billion  = 1000000000
	most     = drift.MaxRate
	second   = 1 << 32
)

// number tells the library's number as one of 64 bits, or that it is none.
func number(n *big.Int) (int64, api.Errno) {
	if !n.IsInt64() {
		return 0, api.ErrOver
	}
	return n.Int64(), api.OK
}

// sum tells a sum by the library's numbers, which never is too great.
func sum(numbers ...*big.Int) *big.Int {
	all := new(big.Int)
	for _, n := range numbers {
		all.Add(all, n)
	}
	return all
}

// down tells a times b by 10^9, rounded down, by the library's numbers.
func down(a, b *big.Int) *big.Int {
	n := new(big.Int).Mul(a, b)
	return n.Div(n, big.NewInt(billion)) // which is above 0, so this rounds down
}

// up tells the same, rounded up.
func up(a, b *big.Int) *big.Int {
	n := down(new(big.Int).Neg(a), b)
	return n.Neg(n)
}

// shows tells what a clock shows, by the words of the document.
func shows(c drift.Clock, t int64) (int64, api.Errno) {
	span := new(big.Int).Sub(big.NewInt(t), big.NewInt(c.From))
	if span.Sign() < 0 {
		return 0, api.ErrArg
	}
	if !span.IsInt64() {
		return 0, api.ErrOver
	}
	return number(sum(big.NewInt(c.Shows), span, down(span, big.NewInt(c.Rate))))
}

// drawn tells so many words of 64 bits that look like drawn ones, and are the same each time.
func drawn(count int) []uint64 {
	told := make([]uint64, count)
	n := uint64(count)
	for i := range told {
		n = n*6364136223846793005 + 1442695040888963407
		told[i] = n ^ n>>29
	}
	return told
}

// moments are such as lie about 0, about 10^9, and about the ends of 64 bits, and ordinary ones.
func moments() []int64 {
	told := []int64{0, 1, 2, 9, 10, 11, 5000, billion - 1, billion, billion + 1, 7 * second, 1 << 62, greatest - billion, greatest - 1, greatest}
	for _, n := range told {
		told = append(told, -n)
	}
	for i, word := range drawn(10) {
		told = append(told, int64(word)>>(i*6))
	}
	return append(told, least)
}

// rates are all kinds of such as a clock may have.
func rates() []int64 {
	told := []int64{0, 1, 2, 15, 999, 1000000, most / 2, most - 1, most}
	for _, n := range told {
		told = append(told, -n)
	}
	for _, word := range drawn(8) {
		told = append(told, int64(word%(2*most+1))-most)
	}
	return told
}

// ratesBeyond are such as no clock is made with.
func ratesBeyond() []int64 {
	told := []int64{most + 1, most + 2, billion - 1, billion, billion + 1, 2 * billion, 1 << 40, 1 << 62, greatest - 1, greatest}
	for _, n := range told {
		told = append(told, -n)
	}
	return append(told, least)
}

// spans are such as lie about 0, about parts of 10^9, and about the greatest one, and ordinary ones.
func spans() []int64 {
	told := []int64{0, 1, 2, 3, 9, 10, 11, 999, 1000, 1001, 66666666, 66666667, billion - 1, billion, billion + 1, second, 1 << 40}
	for i, word := range drawn(12) {
		told = append(told, int64(word>>(8+i*4)))
	}
	return told
}

type readCase struct {
	c       drift.Clock
	t, want int64
	e       api.Errno
}

func (r readCase) check(t *testing.T) {
	t.Helper()
	if got, e := r.c.Read(r.t); got != r.want || e != r.e {
		t.Errorf("%+v.Read(%d): %d, %d, want %d, %d", r.c, r.t, got, e, r.want, r.e)
	}
}

// shown reads a clock where that can't fail.
func shown(t *testing.T, c drift.Clock, at int64) int64 {
	t.Helper()
	n, e := c.Read(at)
	if e != api.OK {
		t.Fatalf("%+v.Read(%d): %d, want %d", c, at, e, api.OK)
	}
	return n
}

// made makes a clock where that can't fail.
func made(t *testing.T, at, shows, rate int64) drift.Clock {
	t.Helper()
	c, e := drift.New(at, shows, rate)
	if e != api.OK {
		t.Fatalf("New(%d, %d, %d): %d, want %d", at, shows, rate, e, api.OK)
	}
	return c
}

// P6.1

func TestMaxRate(t *testing.T) {
	if drift.MaxRate != 100000000 {
		t.Errorf("MaxRate: %d", drift.MaxRate)
	}
}

func TestNew(t *testing.T) {
	for _, at := range moments() {
		for _, shows := range moments() {
			for _, rate := range rates() {
				want := drift.Clock{From: at, Shows: shows, Rate: rate}
				if got, e := drift.New(at, shows, rate); got != want || e != api.OK {
					t.Fatalf("New(%d, %d, %d): %+v, %d", at, shows, rate, got, e)
				}
			}
		}
	}
}

func TestNewOfRatesBeyond(t *testing.T) {
	for _, rate := range ratesBeyond() {
		for _, at := range []int64{least, -3, 0, 5, greatest} {
			if got, e := drift.New(at, 7, rate); got != (drift.Clock{}) || e != api.ErrRange {
				t.Errorf("New(%d, 7, %d): %+v, %d, want none, %d", at, rate, got, e, api.ErrRange)
			}
		}
	}
}

func TestRead(t *testing.T) {
	for _, c := range []readCase{
		{drift.Clock{From: 0, Shows: 100, Rate: 1000000}, 5000, 5105, api.OK},
		{drift.Clock{}, 0, 0, api.OK},
		{drift.Clock{}, 12345, 12345, api.OK},
		{drift.Clock{From: 1000, Shows: 2000, Rate: most}, 2000, 3100, api.OK},
		{drift.Clock{From: 1000, Shows: 2000, Rate: -most}, 2000, 2900, api.OK},
		{drift.Clock{From: -1000, Shows: -2000, Rate: most}, 0, -900, api.OK},
		{drift.Clock{From: -50, Shows: 7, Rate: 0}, -40, 17, api.OK},
		{drift.Clock{From: 0, Shows: 0, Rate: 15}, 3600 * second, 3600*second + 231928, api.OK},
		{drift.Clock{From: 0, Shows: 0, Rate: -15}, 3600 * second, 3600*second - 231929, api.OK},
		{drift.Clock{From: 0, Shows: 0, Rate: most}, 9, 9, api.OK},
		{drift.Clock{From: 0, Shows: 0, Rate: most}, 10, 11, api.OK},
		{drift.Clock{From: 0, Shows: 0, Rate: most}, 19, 20, api.OK},
		{drift.Clock{From: 0, Shows: 0, Rate: -1}, billion, billion - 1, api.OK}, // from here on, down, not towards 0
		{drift.Clock{From: 0, Shows: 0, Rate: -1}, billion + 1, billion - 1, api.OK},
		{drift.Clock{From: 0, Shows: 0, Rate: -1}, billion - 1, billion - 2, api.OK},
		{drift.Clock{From: 0, Shows: 0, Rate: -most}, 9, 8, api.OK},
		{drift.Clock{From: 0, Shows: 0, Rate: -most}, 10, 9, api.OK},
		{drift.Clock{From: 0, Shows: 0, Rate: -most}, 11, 9, api.OK},
		{drift.Clock{From: 0, Shows: -100, Rate: -most}, 11, -91, api.OK},
	} {
		c.check(t)
	}
}

func TestReadAboutFrom(t *testing.T) {
	for _, from := range []int64{least + 1, -second, -1, 0, 1, 1000, greatest - 1} {
		for _, rate := range []int64{0, 1, most, -1, -most} {
			c := drift.Clock{From: from, Shows: 77, Rate: rate}
			next := int64(78)
			if rate < 0 {
				next = 77
			}
			readCase{c, from - 1, 0, api.ErrArg}.check(t)
			readCase{c, from, 77, api.OK}.check(t)
			readCase{c, from + 1, next, api.OK}.check(t)
		}
	}
	readCase{drift.Clock{From: least, Shows: 5}, least, 5, api.OK}.check(t)
	readCase{drift.Clock{From: greatest, Shows: 5}, greatest, 5, api.OK}.check(t)
	readCase{drift.Clock{From: greatest, Shows: 5}, greatest - 1, 0, api.ErrArg}.check(t)
	readCase{drift.Clock{From: greatest, Shows: 5}, least, 0, api.ErrArg}.check(t) // which wrapped round would be 1 behind
	readCase{drift.Clock{From: 1, Shows: 5}, least, 0, api.ErrArg}.check(t)
	readCase{drift.Clock{From: 1, Shows: greatest}, 0, 0, api.ErrArg}.check(t)
}

func TestReadFarBehindFrom(t *testing.T) {
	for _, c := range []readCase{
		{drift.Clock{From: 0}, greatest - 1, greatest - 1, api.OK},
		{drift.Clock{From: 0}, greatest, greatest, api.OK},
		{drift.Clock{From: -1}, greatest - 2, greatest - 1, api.OK},
		{drift.Clock{From: -1}, greatest - 1, greatest, api.OK},
		{drift.Clock{From: -1}, greatest, 0, api.ErrOver},
		{drift.Clock{From: -1, Shows: -5000}, greatest, 0, api.ErrOver}, // though what it shows would fit
		{drift.Clock{From: -1, Shows: least, Rate: -most}, greatest, 0, api.ErrOver},
		{drift.Clock{From: least}, -2, greatest - 1, api.OK},
		{drift.Clock{From: least}, -1, greatest, api.OK},
		{drift.Clock{From: least}, 0, 0, api.ErrOver},
		{drift.Clock{From: least, Shows: -1}, 0, 0, api.ErrOver},
		{drift.Clock{From: least, Shows: least}, greatest, 0, api.ErrOver},
		{drift.Clock{From: least, Rate: -2 * billion}, greatest, 0, api.ErrOver},
		{drift.Clock{From: least / 2}, greatest / 2, greatest, api.OK},
		{drift.Clock{From: least / 2}, greatest/2 + 1, 0, api.ErrOver},
	} {
		c.check(t)
	}
}

func TestReadAtTheEnds(t *testing.T) {
	for _, c := range []readCase{
		{drift.Clock{Shows: greatest - 1}, 0, greatest - 1, api.OK},
		{drift.Clock{Shows: greatest - 2}, 1, greatest - 1, api.OK},
		{drift.Clock{Shows: greatest - 1}, 1, greatest, api.OK},
		{drift.Clock{Shows: greatest}, 0, greatest, api.OK},
		{drift.Clock{Shows: greatest}, 1, 0, api.ErrOver},
		{drift.Clock{Shows: greatest - 11, Rate: most}, 10, greatest, api.OK},
		{drift.Clock{Shows: greatest - 10, Rate: most}, 10, 0, api.ErrOver},
		{drift.Clock{Shows: greatest}, greatest, 0, api.ErrOver},
		{drift.Clock{Shows: greatest, Rate: greatest}, greatest, 0, api.ErrOver},
		{drift.Clock{Shows: 0, Rate: most}, greatest, 0, api.ErrOver},
		{drift.Clock{Shows: least, Rate: most}, greatest, 922337203685477579, api.OK},
		{drift.Clock{Shows: least}, 0, least, api.OK},
		{drift.Clock{Shows: least}, 1, least + 1, api.OK},
		{drift.Clock{Shows: least}, greatest, -1, api.OK},
		{drift.Clock{Shows: least + 2, Rate: -2 * billion}, 1, least + 1, api.OK}, // slower than to stand still
		{drift.Clock{Shows: least + 1, Rate: -2 * billion}, 1, least, api.OK},
		{drift.Clock{Shows: least, Rate: -2 * billion}, 1, 0, api.ErrOver},
		{drift.Clock{Shows: least, Rate: -billion - 1}, 1, 0, api.ErrOver},
		{drift.Clock{Shows: least, Rate: least}, greatest, 0, api.ErrOver},
	} {
		c.check(t)
	}
}

func TestReadWhereASumOnTheWayIsTooGreat(t *testing.T) {
	for _, c := range []readCase{
		{drift.Clock{Shows: greatest, Rate: -billion}, 1, greatest, api.OK}, // Shows and the span
		{drift.Clock{Shows: greatest, Rate: -1}, 1, greatest, api.OK},
		{drift.Clock{Shows: greatest - 9, Rate: -most}, 10, greatest, api.OK},
		{drift.Clock{Shows: greatest - 8, Rate: -most}, 10, 0, api.ErrOver},
		{drift.Clock{Shows: greatest, Rate: -billion}, greatest, greatest, api.OK},
		{drift.Clock{Shows: least, Rate: -1}, 1, least, api.OK}, // Shows and what is gained
		{drift.Clock{Shows: least, Rate: -most}, 10, least + 9, api.OK},
		{drift.Clock{Shows: -greatest, Rate: billion}, greatest, greatest, api.OK}, // the span and what is gained
		{drift.Clock{Shows: -greatest - 1, Rate: billion}, greatest, greatest - 1, api.OK},
		{drift.Clock{Shows: -greatest + 1, Rate: billion}, greatest, 0, api.ErrOver},
		{drift.Clock{Shows: 0, Rate: -2 * billion}, greatest, -greatest, api.OK}, // what is gained, by itself
		{drift.Clock{Shows: -1, Rate: -2 * billion}, greatest, least, api.OK},
		{drift.Clock{Shows: -2, Rate: -2 * billion}, greatest, 0, api.ErrOver},
		{drift.Clock{Shows: greatest, Rate: -3 * billion}, greatest, -greatest, api.OK},
	} {
		c.check(t)
	}
}

func TestReadAtRatesBeyond(t *testing.T) {
	for _, c := range []readCase{
		{drift.Clock{Rate: most + 1}, billion, billion + most + 1, api.OK},
		{drift.Clock{Rate: -most - 1}, billion, billion - most - 1, api.OK},
		{drift.Clock{Rate: -billion}, 12345, 0, api.OK},
		{drift.Clock{Rate: -2 * billion}, 5, -5, api.OK},
		{drift.Clock{Rate: 2 * billion}, 5, 15, api.OK},
		{drift.Clock{Shows: 3, Rate: greatest}, 0, 3, api.OK},
		{drift.Clock{Shows: 3, Rate: least}, 0, 3, api.OK},
		{drift.Clock{Rate: greatest}, 1, 9223372037, api.OK},
		{drift.Clock{Rate: least}, 1, -9223372036, api.OK},
		{drift.Clock{Rate: greatest}, billion, 0, api.ErrOver},
		{drift.Clock{Shows: -billion, Rate: greatest}, billion, greatest, api.OK},
		{drift.Clock{Shows: -billion + 1, Rate: greatest}, billion, 0, api.ErrOver},
		{drift.Clock{Rate: least}, billion, least + billion, api.OK},
		{drift.Clock{Shows: -billion, Rate: least}, billion, least, api.OK},
		{drift.Clock{Shows: -billion - 1, Rate: least}, billion, 0, api.ErrOver},
		{drift.Clock{Rate: greatest}, greatest, 0, api.ErrOver},
		{drift.Clock{Rate: least}, greatest, 0, api.ErrOver},
	} {
		c.check(t)
	}
}

func TestReadOfAll(t *testing.T) {
	for _, from := range moments() {
		for _, first := range moments() {
			for _, rate := range append(rates(), ratesBeyond()...) {
				c := drift.Clock{From: from, Shows: first, Rate: rate}
				for _, at := range moments() {
					want, e := shows(c, at)
					readCase{c, at, want, e}.check(t)
				}
			}
		}
	}
}

// P6.2

type newClockCase struct {
	c         drift.Clock
	t, number int64
	want      drift.Clock
	e         api.Errno
}

func (n newClockCase) checkTurn(t *testing.T) {
	t.Helper()
	if got, e := n.c.Turn(n.t, n.number); got != n.want || e != n.e {
		t.Errorf("%+v.Turn(%d, %d): %+v, %d, want %+v, %d", n.c, n.t, n.number, got, e, n.want, n.e)
	}
}

func (n newClockCase) checkStep(t *testing.T) {
	t.Helper()
	if got, e := n.c.Step(n.t, n.number); got != n.want || e != n.e {
		t.Errorf("%+v.Step(%d, %d): %+v, %d, want %+v, %d", n.c, n.t, n.number, got, e, n.want, n.e)
	}
}

func TestTurn(t *testing.T) {
	c := drift.Clock{From: 1000, Shows: 2000, Rate: most}
	none := drift.Clock{}
	for _, n := range []newClockCase{
		{c, 2000, -most / 2, drift.Clock{From: 2000, Shows: 3100, Rate: -most / 2}, api.OK},
		{c, 1000, 0, drift.Clock{From: 1000, Shows: 2000, Rate: 0}, api.OK},
		{c, 1000, most, c, api.OK},
		{c, 2000, most, drift.Clock{From: 2000, Shows: 3100, Rate: most}, api.OK},
		{c, 2000, -most, drift.Clock{From: 2000, Shows: 3100, Rate: -most}, api.OK},
		{c, 2000, most + 1, none, api.ErrRange},
		{c, 2000, -most - 1, none, api.ErrRange},
		{c, 2000, greatest, none, api.ErrRange},
		{c, 2000, least, none, api.ErrRange},
		{c, 999, 0, none, api.ErrArg},
		{c, least, most, none, api.ErrArg},
		{drift.Clock{Shows: greatest}, 0, 1, drift.Clock{From: 0, Shows: greatest, Rate: 1}, api.OK},
		{drift.Clock{Shows: greatest}, 1, 1, none, api.ErrOver},
		{drift.Clock{From: least}, 0, 1, none, api.ErrOver},
		{drift.Clock{Rate: 2 * billion}, 5, 7, drift.Clock{From: 5, Shows: 15, Rate: 7}, api.OK}, // it was beyond
		{drift.Clock{Rate: least}, 1, 0, drift.Clock{From: 1, Shows: -9223372036, Rate: 0}, api.OK},
		{drift.Clock{Rate: greatest}, 1, greatest, none, api.ErrRange},
	} {
		n.checkTurn(t)
	}
}

func TestTurnWhereSeveralErrorsApply(t *testing.T) {
	late := drift.Clock{From: 1000, Shows: greatest, Rate: most}
	far := drift.Clock{From: -1000, Shows: greatest, Rate: most}
	for _, rate := range ratesBeyond() {
		newClockCase{late, 999, rate, drift.Clock{}, api.ErrRange}.checkTurn(t)
		newClockCase{late, least, rate, drift.Clock{}, api.ErrRange}.checkTurn(t) // t less From isn't of 64 bits either
		newClockCase{late, 1001, rate, drift.Clock{}, api.ErrRange}.checkTurn(t)
		newClockCase{far, greatest, rate, drift.Clock{}, api.ErrRange}.checkTurn(t)
	}
	for _, rate := range rates() {
		newClockCase{late, 999, rate, drift.Clock{}, api.ErrArg}.checkTurn(t)
		newClockCase{late, least, rate, drift.Clock{}, api.ErrArg}.checkTurn(t)
		newClockCase{late, 1001, rate, drift.Clock{}, api.ErrOver}.checkTurn(t)
		newClockCase{far, greatest, rate, drift.Clock{}, api.ErrOver}.checkTurn(t)
	}
}

func TestTurnOfAll(t *testing.T) {
	for _, first := range moments() {
		for _, was := range append(rates(), ratesBeyond()...) {
			c := drift.Clock{From: -10, Shows: first, Rate: was}
			for _, at := range moments() {
				shows, e := shows(c, at)
				for _, rate := range []int64{-most, -7, 0, most} {
					want := drift.Clock{From: at, Shows: shows, Rate: rate}
					if e != api.OK {
						want = drift.Clock{}
					}
					newClockCase{c, at, rate, want, e}.checkTurn(t)
				}
			}
		}
	}
}

func TestStep(t *testing.T) {
	c := drift.Clock{From: 2000, Shows: 3100, Rate: -most / 2}
	for _, n := range []newClockCase{
		{c, 2100, -500, drift.Clock{From: 2100, Shows: 2695, Rate: -most / 2}, api.OK},
		{c, 2100, 500, drift.Clock{From: 2100, Shows: 3695, Rate: -most / 2}, api.OK},
		{c, 2100, 0, drift.Clock{From: 2100, Shows: 3195, Rate: -most / 2}, api.OK},
		{c, 2000, 0, c, api.OK},
		{c, 2000, -3100, drift.Clock{From: 2000, Shows: 0, Rate: -most / 2}, api.OK},
		{drift.Clock{Rate: 2 * billion}, 5, 1, drift.Clock{From: 5, Shows: 16, Rate: 2 * billion}, api.OK}, // it is beyond, and stays so
		{drift.Clock{Rate: most + 1}, 0, 1, drift.Clock{From: 0, Shows: 1, Rate: most + 1}, api.OK},
		{drift.Clock{Rate: least}, 1, 9223372036, drift.Clock{From: 1, Shows: 0, Rate: least}, api.OK},
		{drift.Clock{Rate: greatest}, 1, -9223372037, drift.Clock{From: 1, Shows: 0, Rate: greatest}, api.OK},
	} {
		n.checkStep(t)
	}
}

func TestStepToTheEnds(t *testing.T) {
	none := drift.Clock{}
	at := func(shows int64) drift.Clock { return drift.Clock{From: 10, Shows: shows, Rate: 3} }
	for _, n := range []newClockCase{
		{at(0), 10, greatest, at(greatest), api.OK},
		{at(0), 10, least, at(least), api.OK},
		{at(1), 10, greatest - 1, at(greatest), api.OK},
		{at(1), 10, greatest, none, api.ErrOver},
		{at(-1), 10, least + 1, at(least), api.OK},
		{at(-1), 10, least, none, api.ErrOver},
		{at(-1), 10, greatest, at(greatest - 1), api.OK},
		{at(greatest), 10, 0, at(greatest), api.OK},
		{at(greatest), 10, 1, none, api.ErrOver},
		{at(greatest), 10, -1, at(greatest - 1), api.OK},
		{at(greatest), 10, greatest, none, api.ErrOver}, // which wrapped round would be -2
		{at(greatest), 10, least, at(-1), api.OK},
		{at(least), 10, 0, at(least), api.OK},
		{at(least), 10, -1, none, api.ErrOver},
		{at(least), 10, least, none, api.ErrOver}, // and 0
		{at(least), 10, greatest, at(-1), api.OK},
		{drift.Clock{Shows: 100, Rate: 1000000}, 5000, greatest - 5105, drift.Clock{From: 5000, Shows: greatest, Rate: 1000000}, api.OK},
		{drift.Clock{Shows: 100, Rate: 1000000}, 5000, greatest - 5104, none, api.ErrOver},
	} {
		n.checkStep(t)
	}
}

func TestStepWhereReadFails(t *testing.T) {
	for _, by := range []int64{0, 1, -1, greatest, least} {
		newClockCase{drift.Clock{From: 10, Shows: 5}, 9, by, drift.Clock{}, api.ErrArg}.checkStep(t)
		newClockCase{drift.Clock{From: 10, Shows: greatest}, 9, by, drift.Clock{}, api.ErrArg}.checkStep(t)
		newClockCase{drift.Clock{From: 10, Shows: least}, least, by, drift.Clock{}, api.ErrArg}.checkStep(t)
		newClockCase{drift.Clock{From: 10, Shows: greatest}, 11, by, drift.Clock{}, api.ErrOver}.checkStep(t) // though by may bring it back
		newClockCase{drift.Clock{Shows: least, Rate: -2 * billion}, 1, by, drift.Clock{}, api.ErrOver}.checkStep(t)
		newClockCase{drift.Clock{From: least}, 0, by, drift.Clock{}, api.ErrOver}.checkStep(t)
	}
}

func TestStepOfAll(t *testing.T) {
	for _, first := range moments() {
		for _, rate := range append(rates(), ratesBeyond()...) {
			c := drift.Clock{From: -10, Shows: first, Rate: rate}
			for _, at := range []int64{least, -11, -10, -9, 0, 5000, billion, greatest - 10, greatest} {
				read, e := shows(c, at)
				for _, by := range moments() {
					want, f := number(sum(big.NewInt(read), big.NewInt(by)))
					n := newClockCase{c, at, by, drift.Clock{From: at, Shows: want, Rate: rate}, f}
					if e != api.OK {
						n.e = e
					}
					if n.e != api.OK {
						n.want = drift.Clock{}
					}
					n.checkStep(t)
				}
			}
		}
	}
}

func TestClockStaysAsItWas(t *testing.T) {
	c := drift.Clock{From: 1000, Shows: 2000, Rate: most}
	was := c
	c.Read(2000)
	c.Turn(2000, 5)
	c.Step(2000, 5)
	if c != was {
		t.Errorf("it was %+v, and is %+v", was, c)
	}
}

// P6.3

func TestGrown(t *testing.T) {
	for _, c := range []struct {
		span, rate, want int64
		e                api.Errno
	}{
		{0, 0, 0, api.OK},
		{0, 1, 0, api.OK},
		{1, 0, 0, api.OK},
		{0, greatest, 0, api.OK},
		{greatest, 0, 0, api.OK},
		{1, 1, 1, api.OK}, // up, however small the part is
		{1, billion - 1, 1, api.OK},
		{1, billion, 1, api.OK},
		{1, billion + 1, 2, api.OK},
		{2, billion / 2, 1, api.OK},
		{3, billion / 2, 2, api.OK},
		{billion - 1, 15, 15, api.OK},
		{billion, 15, 15, api.OK},
		{billion + 1, 15, 16, api.OK},
		{10, most, 1, api.OK},
		{11, most, 2, api.OK},
		{3600 * second, 15, 231929, api.OK},
		{greatest, 1, 9223372037, api.OK},
		{1, greatest, 9223372037, api.OK},
		{greatest, most, 922337203685477581, api.OK},
		{greatest, billion - 1, greatest - 9223372036, api.OK},
		{greatest, billion, greatest, api.OK}, // the greatest that is told
		{billion, greatest, greatest, api.OK},
		{billion - 1, greatest, greatest - 9223372036, api.OK},
		{greatest, billion + 1, 0, api.ErrOver},
		{billion + 1, greatest, 0, api.ErrOver},
		{1 << 62, 2 * billion, 0, api.ErrOver}, // 2^63
		{1<<62 - 1, 2 * billion, greatest - 1, api.OK},
		{greatest / 7, 7 * billion, greatest, api.OK},
		{greatest/7 + 1, 7 * billion, 0, api.ErrOver},
		{1 << 54, 512 * billion, 0, api.ErrOver},
		{1 << 54, 512*billion - 1, greatest - 18014397, api.OK},
		{greatest, greatest, 0, api.ErrOver},
		{-1, 0, 0, api.ErrArg},
		{-1, 5, 0, api.ErrArg},
		{0, -1, 0, api.ErrArg},
		{5, -1, 0, api.ErrArg},
		{-1, -1, 0, api.ErrArg},
		{least, 0, 0, api.ErrArg},
		{0, least, 0, api.ErrArg},
		{least, least, 0, api.ErrArg},
		{least, greatest, 0, api.ErrArg}, // which would be too great, too
		{greatest, least, 0, api.ErrArg},
		{-greatest, -greatest, 0, api.ErrArg},
	} {
		if got, e := drift.Grown(c.span, c.rate); got != c.want || e != c.e {
			t.Errorf("Grown(%d, %d): %d, %d, want %d, %d", c.span, c.rate, got, e, c.want, c.e)
		}
	}
}

func TestGrownJustAboveTheGreatest(t *testing.T) {
	// 2^63 - 1 is 7 times 7 times 73 times 127 times 337 times 92737 times 649657: of these spans the parts are whole, and
	// one part more takes what is grown just beyond.
	for _, span := range []int64{1, 7, 49, 73, 127, 337, 92737} {
		if got, e := drift.Grown(billion*span, greatest/span); got != greatest || e != api.OK {
			t.Errorf("Grown(%d, %d): %d, %d, want %d, %d", billion*span, greatest/span, got, e, int64(greatest), api.OK)
		}
		if got, e := drift.Grown(billion*span+1, greatest/span); got != 0 || e != api.ErrOver {
			t.Errorf("Grown(%d, %d): %d, %d, want 0, %d", billion*span+1, greatest/span, got, e, api.ErrOver)
		}
	}
}

func TestGrownOfAll(t *testing.T) {
	numbers := slices.Concat(moments(), rates(), ratesBeyond(), spans())
	for _, span := range numbers {
		for _, rate := range numbers {
			want, e := number(up(big.NewInt(span), big.NewInt(rate)))
			if span < 0 || rate < 0 {
				want, e = 0, api.ErrArg
			}
			if got, f := drift.Grown(span, rate); got != want || f != e {
				t.Errorf("Grown(%d, %d): %d, %d, want %d, %d", span, rate, got, f, want, e)
			}
		}
	}
}

// P6.4

func TestClockNeverGoesBack(t *testing.T) {
	for _, rate := range rates() {
		c := made(t, -50, 1000, rate)
		before := shown(t, c, -50)
		for at := int64(-49); at < 3000; at++ { // tick by tick
			now := shown(t, c, at)
			if now < before {
				t.Fatalf("%+v shows %d at %d, and %d a tick before", c, now, at, before)
			}
			before = now
		}
		at := slices.Sorted(slices.Values(spans())) // and in leaps
		for i := 1; i < len(at); i++ {
			if a, b := shown(t, c, at[i-1]), shown(t, c, at[i]); b < a {
				t.Errorf("%+v shows %d at %d, and %d at %d", c, a, at[i-1], b, at[i])
			}
		}
	}
}

func TestTwoSpansOneAfterTheOther(t *testing.T) {
	less := map[int64]bool{}
	for _, rate := range rates() {
		c := made(t, 0, -77, rate)
		for _, a := range spans() {
			turned, e := c.Turn(a, rate)
			stepped, f := c.Step(a, 0)
			if turned != stepped || e != api.OK || f != api.OK {
				t.Fatalf("%+v at %d: %+v, %d, and %+v, %d", c, a, turned, e, stepped, f)
			}
			for _, b := range spans() {
				lost := shown(t, c, a+b) - shown(t, turned, a+b)
				if lost != 0 && lost != 1 {
					t.Errorf("%+v shows %d less by %d and %d than by both", c, lost, a, b)
				}
				less[lost] = true
			}
		}
	}
	if !less[0] || !less[1] {
		t.Errorf("not both happened: %v", less)
	}
}

func TestWhatIsGrownIsNoLessThanHowFarClocksGo(t *testing.T) {
	for _, rate := range rates() {
		for _, span := range spans() {
			grown, e := drift.Grown(span, max(rate, -rate))
			if e != api.OK {
				t.Fatalf("Grown(%d, %d): %d", span, max(rate, -rate), e)
			}
			c := made(t, 0, 0, rate)
			wrong := shown(t, c, span) - span
			if wrong = max(wrong, -wrong); wrong > grown {
				t.Errorf("%+v goes wrong by %d in %d, and grown is %d", c, wrong, span, grown)
			}
			if rate < 0 && wrong != grown { // both are rounded away from true time: no less would do
				t.Errorf("%+v goes wrong by %d in %d, but grown is %d", c, wrong, span, grown)
			}
		}
	}
}

func TestWhatIsGrownIsNoLessThanHowFarClocksOfOneRateGoApart(t *testing.T) {
	for _, rate := range rates() {
		for _, begun := range spans() { // the one began this long ahead of the other
			old := made(t, -begun, 0, rate)
			young, e := old.Turn(0, rate)
			if e != api.OK {
				t.Fatalf("%+v.Turn(0, %d): %d", old, rate, e)
			}
			for _, span := range spans() {
				grown, _ := drift.Grown(span, max(rate, -rate))
				apart := shown(t, old, span) - shown(t, young, span)
				if max(apart, -apart) > grown {
					t.Errorf("rate %d: %d apart behind %d, and grown is %d", rate, apart, span, grown)
				}
			}
		}
	}
}
