package head_test

import (
	"encoding/binary"
	"fmt"
	"math"
	"slices"
	"strings"
	"testing"

	"timeball/api"
	"timeball/head"
)

// drawn tells so many words of 64 bits that look like drawn ones, and are the same each time.
func drawn(count int) []uint64 {
	told := make([]uint64, count)
	n := uint64(count)
	for i := range told {
		n = n*6364136223846793005 + 1442695040888963407
		told[i] = n ^ n>>29
	}
	return told
}

// text tells so many bytes of which none is 0, and no two neighbours are the same.
func text(size int) string {
	told := make([]byte, size)
	for i := range told {
		told[i] = byte(i%255 + 1)
	}
	return string(told)
}

// unlike is a head of which no two bytes are the same, and unlikeBytes are its bytes.
var unlike = api.Head{
	Leap: 2, Version: 4, Mode: 3, Stratum: 200, Poll: -6, Precision: 7,
	Delay: 0x01020304, Dispersion: 0x05060809, Id: 0x0a0b0c0d,
	Reference: 0x1112131415161718, Origin: 0x2122232425262728, Receive: 0x3132333435363738, Transmit: 0xc1c2c3c4c5c6c7c9,
}

const unlikeBytes = "\xa3\xc8\xfa\x07" +
	"\x01\x02\x03\x04" + "\x05\x06\x08\x09" + "\x0a\x0b\x0c\x0d" +
	"\x11\x12\x13\x14\x15\x16\x17\x18" + "\x21\x22\x23\x24\x25\x26\x27\x28" +
	"\x31\x32\x33\x34\x35\x36\x37\x38" + "\xc1\xc2\xc3\xc4\xc5\xc6\xc7\xc9"

// headBytes tells the bytes of a head that may be, by the library.
func headBytes(h api.Head) string {
	s := []byte{byte(h.Leap*64 + h.Version*8 + h.Mode), byte(h.Stratum), byte(h.Poll), byte(h.Precision)}
	s = binary.BigEndian.AppendUint32(s, h.Delay)
	s = binary.BigEndian.AppendUint32(s, h.Dispersion)
	s = binary.BigEndian.AppendUint32(s, h.Id)
	s = binary.BigEndian.AppendUint64(s, uint64(h.Reference))
	s = binary.BigEndian.AppendUint64(s, uint64(h.Origin))
	s = binary.BigEndian.AppendUint64(s, uint64(h.Receive))
	s = binary.BigEndian.AppendUint64(s, uint64(h.Transmit))
	return string(s)
}

// laid tells what is laid for an extension: a kind, a length, and whatever follows.
func laid(kind, length int, behind string) string {
	s := binary.BigEndian.AppendUint16(nil, uint16(kind))
	s = binary.BigEndian.AppendUint16(s, uint16(length))
	return string(s) + behind
}

// fieldBytes tells the bytes of an extension that may be, by the library.
func fieldBytes(f api.Field) string {
	zeros := [4]string{"", "\x00\x00\x00", "\x00\x00", "\x00"}
	return laid(f.Kind, 4+len(f.Data), f.Data+zeros[len(f.Data)%4])
}

// packetBytes tells the bytes of a packet that may be.
func packetBytes(h api.Head, l []api.Field) string {
	s := headBytes(h)
	for _, f := range l {
		s += fieldBytes(f)
	}
	return s
}

// readBySteps tells what Read is to tell, byte by byte, by the words of the document.
func readBySteps(s string) (api.Head, []api.Field, api.Errno) {
	if len(s) < 48 {
		return api.Head{}, nil, api.ErrSize
	}
	if s[0]/8%8 != 4 {
		return api.Head{}, nil, api.ErrForm
	}
	b := []byte(s)
	h := api.Head{
		Leap: int(b[0] / 64), Version: 4, Mode: int(b[0] % 8), Stratum: int(b[1]),
		Poll: (int(b[2])+128)%256 - 128, Precision: (int(b[3])+128)%256 - 128,
		Delay: binary.BigEndian.Uint32(b[4:]), Dispersion: binary.BigEndian.Uint32(b[8:]), Id: binary.BigEndian.Uint32(b[12:]),
		Reference: api.Stamp(binary.BigEndian.Uint64(b[16:])), Origin: api.Stamp(binary.BigEndian.Uint64(b[24:])),
		Receive: api.Stamp(binary.BigEndian.Uint64(b[32:])), Transmit: api.Stamp(binary.BigEndian.Uint64(b[40:])),
	}
	var l []api.Field
	for at := 48; at < len(b); {
		if len(l) == 16 {
			return api.Head{}, nil, api.ErrMany
		}
		if at+4 > len(b) {
			return api.Head{}, nil, api.ErrForm
		}
		kind, length := int(b[at])*256+int(b[at+1]), int(b[at+2])*256+int(b[at+3])
		if kind == 0 || length < 4 || length > 1004 {
			return api.Head{}, nil, api.ErrForm
		}
		end := at + length
		for next := end; next%4 != 0; next++ { // 48 is a multiple of 4, and so is each extension's end
			if next >= len(b) || b[next] != 0 {
				return api.Head{}, nil, api.ErrForm
			}
		}
		if end > len(b) {
			return api.Head{}, nil, api.ErrForm
		}
		l = append(l, api.Field{Kind: kind, Data: s[at+4 : end]})
		at = (end + 3) / 4 * 4
	}
	return h, l, api.OK
}

// part is one of a head's numbers that not all values may be.
type part struct {
	name            string
	of              func(h *api.Head) *int
	least, greatest int
}

func parts() []part {
	return []part{
		{"Leap", func(h *api.Head) *int { return &h.Leap }, 0, 3},
		{"Version", func(h *api.Head) *int { return &h.Version }, 4, 4},
		{"Mode", func(h *api.Head) *int { return &h.Mode }, 0, 7},
		{"Stratum", func(h *api.Head) *int { return &h.Stratum }, 0, 255},
		{"Poll", func(h *api.Head) *int { return &h.Poll }, -128, 127},
		{"Precision", func(h *api.Head) *int { return &h.Precision }, -128, 127},
	}
}

// heads are such as may be: ordinary ones, with each part at all of its values, and with words and stamps at their ends.
func heads() []api.Head {
	told := []api.Head{{Version: 4}, {Version: 4, Mode: 5}, {Version: 4, Mode: 3, Transmit: 1 << 63}, unlike}
	for _, p := range parts() {
		for n := p.least; n <= p.greatest; n++ {
			for _, h := range []api.Head{unlike, {Version: 4}} {
				*p.of(&h) = n
				told = append(told, h)
			}
		}
	}
	told = append(told, api.Head{
		Leap: 3, Version: 4, Mode: 7, Stratum: 255, Poll: 127, Precision: 127,
		Delay: math.MaxUint32, Dispersion: math.MaxUint32, Id: math.MaxUint32,
		Reference: math.MaxUint64, Origin: math.MaxUint64, Receive: math.MaxUint64, Transmit: math.MaxUint64,
	})
	words := drawn(80)
	for d := range slices.Chunk(words, 8) {
		told = append(told, api.Head{
			Leap: int(d[0] % 4), Version: 4, Mode: int(d[1] % 8), Stratum: int(d[2] % 256), Poll: int(int8(d[3])), Precision: int(int8(d[4])),
			Delay: uint32(d[5]), Dispersion: uint32(d[6]), Id: uint32(d[7]),
			Reference: api.Stamp(d[0]), Origin: api.Stamp(d[1]), Receive: api.Stamp(d[2]), Transmit: api.Stamp(d[3]),
		})
	}
	return told
}

// wrongHeads are such as may not be, for one part alone.
func wrongHeads() []api.Head {
	var told []api.Head
	for _, p := range parts() {
		for _, n := range []int{p.least - 1, p.greatest + 1, p.least - 256, p.greatest + 256, p.greatest + 1<<32, math.MinInt, math.MinInt + 1, math.MaxInt - 1, math.MaxInt} {
			for _, h := range []api.Head{unlike, {Version: 4}} {
				*p.of(&h) = n
				told = append(told, h)
			}
		}
	}
	return append(told, api.Head{}, api.Head{Version: 3, Mode: 3}, api.Head{Version: 5})
}

// lists are extensions of packets that may be.
func lists() [][]api.Field {
	told := [][]api.Field{nil, {}}
	for _, size := range []int{0, 1, 2, 3, 4, 5, 6, 7, 8, 9, 251, 252, 253, 999, 1000} {
		told = append(told,
			[]api.Field{{Kind: 258, Data: text(size)}},
			[]api.Field{{Kind: 7, Data: text(size)}, {Kind: 7, Data: "behind it"}},
			[]api.Field{{Kind: 7, Data: strings.Repeat("\x00", size)}}, // which aren't taken for the bytes 0 behind
		)
	}
	for _, kind := range []int{1, 2, 255, 256, 257, 0x8000, 65534, 65535} {
		told = append(told, []api.Field{{Kind: kind}}, []api.Field{{Kind: kind, Data: "abc"}})
	}
	for _, count := range []int{2, 3, 15, 16} {
		l := make([]api.Field, count)
		for i := range l {
			l[i] = api.Field{Kind: 300 * (i + 1), Data: text(i)}
		}
		told = append(told, l, slices.Repeat([]api.Field{{Kind: 1}}, count))
	}
	return append(told, slices.Repeat([]api.Field{{Kind: 65535, Data: text(1000)}}, 16))
}

// wrongFields are such as may not be.
func wrongFields() []api.Field {
	return []api.Field{
		{}, {Kind: 0, Data: "abc"}, {Kind: -1}, {Kind: 65536}, {Kind: 65537}, {Kind: -65535}, {Kind: 1 << 32},
		{Kind: math.MinInt}, {Kind: math.MinInt + 1}, {Kind: math.MaxInt}, {Kind: math.MaxInt - 1, Data: "abc"},
		{Kind: 1, Data: text(1001)}, {Kind: 1, Data: text(1004)}, {Kind: 1, Data: text(65532)}, {Kind: 1, Data: text(65536)}, {Kind: 1, Data: text(65540)},
		{Kind: 0, Data: text(1001)},
	}
}

// right are so many extensions that may be, of 4 bytes each.
func right(count int) []api.Field { return slices.Repeat([]api.Field{{Kind: 1}}, count) }

func checkPut(t *testing.T, h api.Head, want string, e api.Errno) {
	t.Helper()
	if s, f := head.Put(h); s != want || f != e {
		t.Errorf("Put(%+v): %x, %d, want %x, %d", h, s, f, want, e)
	}
}

func checkTake(t *testing.T, s string, want api.Head, e api.Errno) {
	t.Helper()
	if h, f := head.Take(s); h != want || f != e {
		t.Errorf("Take(%x): %+v, %d, want %+v, %d", s, h, f, want, e)
	}
}

func checkWrite(t *testing.T, h api.Head, l []api.Field, want string, e api.Errno) {
	t.Helper()
	if s, f := head.Write(h, l); s != want || f != e {
		t.Errorf("Write(%+v, %s): %.200x, %d, want %.200x, %d", h, shape(l), s, f, want, e)
	}
}

func checkRead(t *testing.T, s string, want api.Head, l []api.Field, e api.Errno) {
	t.Helper()
	if h, m, f := head.Read(s); h != want || !slices.Equal(m, l) || f != e {
		t.Errorf("Read of %d bytes %.200x: %+v, %s, %d, want %+v, %s, %d", len(s), s, h, shape(m), f, want, shape(l), e)
	}
}

// shape tells extensions, but of their data no more than the beginning.
func shape(l []api.Field) string {
	var s strings.Builder
	for _, f := range l {
		fmt.Fprintf(&s, "(%d: %d bytes %.10x)", f.Kind, len(f.Data), f.Data)
	}
	return s.String()
}

// P7.1

func TestExample(t *testing.T) {
	s, e := head.Put(api.Head{Leap: 0, Version: 4, Mode: 5})
	if want := "\x25" + strings.Repeat("\x00", 47); s != want || s[0] != 37 || e != api.OK {
		t.Errorf("%x, %d, want %x, %d", s, e, want, api.OK)
	}
	checkTake(t, "\x25"+strings.Repeat("\x00", 47), api.Head{Version: 4, Mode: 5}, api.OK)
}

func TestHeadWithAllBytesUnlike(t *testing.T) {
	checkPut(t, unlike, unlikeBytes, api.OK)
	checkTake(t, unlikeBytes, unlike, api.OK)
	if !head.May(unlike) {
		t.Errorf("%+v may not be", unlike)
	}
}

func TestHeadsThatMayBe(t *testing.T) {
	for _, h := range heads() {
		if !head.May(h) {
			t.Errorf("%+v may not be", h)
		}
		checkPut(t, h, headBytes(h), api.OK)
		checkTake(t, headBytes(h), h, api.OK)
	}
}

func TestHeadsThatMayNotBe(t *testing.T) {
	for _, h := range wrongHeads() {
		if head.May(h) {
			t.Errorf("%+v may be", h)
		}
		checkPut(t, h, "", api.ErrForm)
	}
}

func TestPartsAtTheirEnds(t *testing.T) {
	for _, c := range []struct {
		part        int
		n           int
		place, want byte
	}{
		{0, 0, 0, 0x23}, {0, 3, 0, 0xe3}, {2, 0, 0, 0xa0}, {2, 7, 0, 0xa7},
		{3, 0, 1, 0}, {3, 255, 1, 0xff},
		{4, -128, 2, 0x80}, {4, -1, 2, 0xff}, {4, 0, 2, 0}, {4, 127, 2, 0x7f},
		{5, -128, 3, 0x80}, {5, -1, 3, 0xff}, {5, 0, 3, 0}, {5, 127, 3, 0x7f},
	} {
		h := unlike
		*parts()[c.part].of(&h) = c.n
		want := []byte(unlikeBytes)
		want[c.place] = c.want
		checkPut(t, h, string(want), api.OK)
		checkTake(t, string(want), h, api.OK)
	}
}

func TestWordsAndStampsInTheirPlaces(t *testing.T) {
	begin := "\x23\x00\x00\x00"
	empty := begin + strings.Repeat("\x00", 44)
	for i, of := range []func(h *api.Head) *uint32{
		func(h *api.Head) *uint32 { return &h.Delay }, func(h *api.Head) *uint32 { return &h.Dispersion }, func(h *api.Head) *uint32 { return &h.Id },
	} {
		for n, bytes := range map[uint32]string{0: "\x00\x00\x00\x00", 1: "\x00\x00\x00\x01", 0xf1020304: "\xf1\x02\x03\x04", math.MaxUint32: "\xff\xff\xff\xff"} {
			h := api.Head{Version: 4, Mode: 3}
			*of(&h) = n
			want := empty[:4+4*i] + bytes + empty[8+4*i:]
			checkPut(t, h, want, api.OK)
			checkTake(t, want, h, api.OK)
		}
	}
	for i, of := range []func(h *api.Head) *api.Stamp{
		func(h *api.Head) *api.Stamp { return &h.Reference }, func(h *api.Head) *api.Stamp { return &h.Origin },
		func(h *api.Head) *api.Stamp { return &h.Receive }, func(h *api.Head) *api.Stamp { return &h.Transmit },
	} {
		for n, bytes := range map[api.Stamp]string{
			0: "\x00\x00\x00\x00\x00\x00\x00\x00", 1: "\x00\x00\x00\x00\x00\x00\x00\x01",
			0xf102030405060708: "\xf1\x02\x03\x04\x05\x06\x07\x08", math.MaxUint64: "\xff\xff\xff\xff\xff\xff\xff\xff",
		} {
			h := api.Head{Version: 4, Mode: 3}
			*of(&h) = n
			want := empty[:16+8*i] + bytes + empty[24+8*i:]
			checkPut(t, h, want, api.OK)
			checkTake(t, want, h, api.OK)
		}
	}
}

func TestTakeOfOtherSizes(t *testing.T) {
	long := unlikeBytes + unlikeBytes
	for size := range len(long) {
		if size != 48 {
			checkTake(t, long[:size], api.Head{}, api.ErrSize)
		}
	}
	for _, size := range []int{0, 1, 47, 49, 52, 96, 48 + 65536} { // the size is the first error, whatever the bytes are
		checkTake(t, strings.Repeat("\x00", size), api.Head{}, api.ErrSize)
	}
}

func TestTakeOfEveryFirstByte(t *testing.T) {
	for first := range 256 {
		s := string([]byte{byte(first)}) + unlikeBytes[1:]
		if first/8%8 != 4 {
			checkTake(t, s, api.Head{}, api.ErrForm)
			continue
		}
		want := unlike
		want.Leap, want.Mode = first/64, first%8
		checkTake(t, s, want, api.OK)
	}
}

// P7.2: Write

func TestWriteOfAll(t *testing.T) {
	for _, h := range heads()[:20] {
		for _, l := range lists() {
			checkWrite(t, h, l, packetBytes(h, l), api.OK)
		}
	}
	for _, h := range heads() {
		checkWrite(t, h, nil, headBytes(h), api.OK)
		checkWrite(t, h, []api.Field{}, headBytes(h), api.OK)
	}
}

func TestWriteOfKnownBytes(t *testing.T) {
	for _, c := range []struct {
		f    api.Field
		want string
	}{
		{api.Field{Kind: 1}, "\x00\x01\x00\x04"},
		{api.Field{Kind: 258, Data: "a"}, "\x01\x02\x00\x05a\x00\x00\x00"},
		{api.Field{Kind: 258, Data: "ab"}, "\x01\x02\x00\x06ab\x00\x00"},
		{api.Field{Kind: 258, Data: "abc"}, "\x01\x02\x00\x07abc\x00"},
		{api.Field{Kind: 258, Data: "abcd"}, "\x01\x02\x00\x08abcd"},
		{api.Field{Kind: 258, Data: "abcde"}, "\x01\x02\x00\x09abcde\x00\x00\x00"},
		{api.Field{Kind: 65535, Data: "\x00\x00"}, "\xff\xff\x00\x06\x00\x00\x00\x00"},
		{api.Field{Kind: 65535, Data: text(999)}, "\xff\xff\x03\xeb" + text(999) + "\x00"},
		{api.Field{Kind: 65535, Data: text(1000)}, "\xff\xff\x03\xec" + text(1000)},
	} {
		checkWrite(t, unlike, []api.Field{c.f}, unlikeBytes+c.want, api.OK)
		checkWrite(t, unlike, []api.Field{{Kind: 3, Data: "x"}, c.f, {Kind: 4}}, unlikeBytes+"\x00\x03\x00\x05x\x00\x00\x00"+c.want+"\x00\x04\x00\x04", api.OK)
		checkRead(t, unlikeBytes+c.want, unlike, []api.Field{c.f}, api.OK)
	}
}

func TestWriteOfWhatMayNotBe(t *testing.T) {
	for _, h := range wrongHeads() {
		checkWrite(t, h, nil, "", api.ErrForm)
		checkWrite(t, h, right(1), "", api.ErrForm)
		checkWrite(t, h, right(17), "", api.ErrForm) // the head's error is named first
	}
	for _, f := range wrongFields() {
		checkWrite(t, unlike, []api.Field{f}, "", api.ErrForm)
		checkWrite(t, api.Head{}, []api.Field{f}, "", api.ErrForm)
		for _, count := range []int{3, 16, 17, 18, 40} { // an extension's error is named first too, wherever it stands
			for at := range count {
				l := right(count)
				l[at] = f
				checkWrite(t, unlike, l, "", api.ErrForm)
			}
		}
	}
}

func TestWriteOfMany(t *testing.T) {
	for count := range 20 {
		want, e := unlikeBytes+strings.Repeat("\x00\x01\x00\x04", count), api.OK
		if count > 16 {
			want, e = "", api.ErrMany
		}
		checkWrite(t, unlike, right(count), want, e)
	}
	checkWrite(t, unlike, right(1000), "", api.ErrMany)
	checkWrite(t, unlike, slices.Repeat([]api.Field{{Kind: 65535, Data: text(1000)}}, 17), "", api.ErrMany)
}

// P7.2: Read

func TestReadOfAll(t *testing.T) {
	for _, h := range heads()[:20] {
		for _, l := range lists() {
			checkRead(t, packetBytes(h, l), h, l, api.OK)
		}
	}
	for _, h := range heads() {
		checkRead(t, headBytes(h), h, nil, api.OK)
	}
}

func TestReadOfBeginnings(t *testing.T) {
	for _, l := range lists() {
		s := packetBytes(unlike, l)
		ends := map[int]int{48: 0} // how many extensions end there
		for i := range l {
			ends[len(packetBytes(unlike, l[:i+1]))] = i + 1
		}
		for size := range len(s) + 1 {
			count, whole := ends[size]
			switch {
			case size < 48:
				checkRead(t, s[:size], api.Head{}, nil, api.ErrSize)
			case whole:
				checkRead(t, s[:size], unlike, l[:count], api.OK)
			default:
				checkRead(t, s[:size], api.Head{}, nil, api.ErrForm)
			}
		}
	}
}

func TestReadOfEveryFirstByte(t *testing.T) {
	for first := range 256 {
		begin := string([]byte{byte(first)}) + unlikeBytes[1:]
		for _, behind := range []string{"", "\x00\x01\x00\x04", "\x00", strings.Repeat("\x00\x01\x00\x04", 17)} {
			h, l, e := readBySteps(begin + behind)
			checkRead(t, begin+behind, h, l, e)
			if first/8%8 != 4 && e != api.ErrForm { // also where there are too many behind it
				t.Errorf("first byte %d: %d", first, e)
			}
		}
		checkRead(t, begin[:47], api.Head{}, nil, api.ErrSize)
	}
}

func TestReadOfWrongKindsAndLengths(t *testing.T) {
	for _, s := range []string{
		"\x00", "\x00\x01", "\x00\x01\x00", "\x01", "\x00\x00\x00\x00",
		laid(0, 4, ""), laid(0, 8, "abcd"), laid(0, 7, "abc\x00"), laid(0, 0, ""),
		laid(1, 0, ""), laid(1, 1, ""), laid(1, 2, ""), laid(1, 3, ""), laid(1, 0, "abcd"), laid(1, 3, "\x00\x00\x00\x00"),
		laid(1, 5, ""), laid(1, 8, ""), laid(1, 8, "abc"), laid(1, 9, "abcd"), laid(1, 1004, text(999)), laid(1, 1004, ""), laid(1, 65535, ""), laid(1, 65535, text(65528)),
		laid(1, 5, "a"), laid(1, 5, "a\x00"), laid(1, 5, "a\x00\x00"), laid(1, 6, "ab\x00"), laid(1, 7, "abc"), laid(1, 1003, text(999)),
		laid(1, 5, "a\x00\x00\x00\x00"), laid(1, 8, "abcd\x00"), laid(1, 4, "\x00\x00\x00\x00"),
		laid(1, 1005, text(1001)+"\x00\x00\x00"), laid(1, 1006, text(1002)+"\x00\x00"), laid(1, 1007, text(1003)+"\x00"), laid(1, 1008, text(1004)),
		laid(1, 1024, text(1020)), laid(1, 65535, text(65531)+"\x00"), laid(1, 65532, text(65528)), laid(65535, 65535, text(65531)+"\x00"),
	} {
		checkRead(t, unlikeBytes+s, api.Head{}, nil, api.ErrForm)
		checkRead(t, unlikeBytes+"\x00\x01\x00\x05x\x00\x00\x00"+s, api.Head{}, nil, api.ErrForm)
		checkRead(t, unlikeBytes+strings.Repeat("\x00\x01\x00\x04", 14)+s, api.Head{}, nil, api.ErrForm) // some hold one that is right, and what isn't is the 16th
	}
	checkRead(t, unlikeBytes+laid(1, 1003, text(999)+"\x00"), unlike, []api.Field{{Kind: 1, Data: text(999)}}, api.OK)
	checkRead(t, unlikeBytes+laid(1, 1004, text(1000)), unlike, []api.Field{{Kind: 1, Data: text(1000)}}, api.OK)
}

func TestReadOfBytesBehindDataThatAreNot0(t *testing.T) {
	for size := range 10 {
		good := laid(9, 4+size, text(size)+strings.Repeat("\x00", (4-size%4)%4))
		for at := 4 + size; at < len(good); at++ {
			for n := 1; n < 256; n++ {
				bad := []byte(good)
				bad[at] = byte(n)
				checkRead(t, unlikeBytes+string(bad), api.Head{}, nil, api.ErrForm)
				checkRead(t, unlikeBytes+string(bad)+"\x00\x01\x00\x04", api.Head{}, nil, api.ErrForm)
			}
		}
		checkRead(t, unlikeBytes+good, unlike, []api.Field{{Kind: 9, Data: text(size)}}, api.OK)
	}
}

func TestReadOfMany(t *testing.T) {
	const one = "\x00\x01\x00\x04"
	checkRead(t, unlikeBytes+strings.Repeat(one, 15), unlike, right(15), api.OK)
	checkRead(t, unlikeBytes+strings.Repeat(one, 16), unlike, right(16), api.OK)
	full := unlikeBytes + strings.Repeat(one, 16)
	for _, behind := range []string{
		one, one + one, strings.Repeat(one, 1000), "\x00", "x", "\x00\x01\x00", "\x00\x00\x00\x00", laid(0, 4, ""), laid(1, 3, ""),
		laid(1, 5, ""), laid(1, 5, "abcd"), laid(1, 1008, text(1004)), text(50),
	} {
		checkRead(t, full+behind, api.Head{}, nil, api.ErrMany)
		checkRead(t, "\x00"+full[1:]+behind, api.Head{}, nil, api.ErrForm) // the head is wrong too
		for at := range 16 {
			for _, wrong := range []string{laid(0, 4, ""), laid(1, 3, ""), laid(1, 5, "a\x00\x00\x01"), laid(1, 1008, text(1004))} {
				s := unlikeBytes + strings.Repeat(one, at) + wrong + strings.Repeat(one, 15-at)
				checkRead(t, s+behind, api.Head{}, nil, api.ErrForm)
			}
		}
	}
	great := packetBytes(unlike, slices.Repeat([]api.Field{{Kind: 65535, Data: text(1000)}}, 16))
	checkRead(t, great+"\x00", api.Head{}, nil, api.ErrMany)
	checkRead(t, great+fieldBytes(api.Field{Kind: 65535, Data: text(1000)}), api.Head{}, nil, api.ErrMany)
}

func TestReadOfChangedPackets(t *testing.T) {
	for _, l := range lists() {
		s := []byte(packetBytes(unlike, l))
		for at := range min(len(s), 200) {
			was := s[at]
			for _, n := range []byte{0, 1, 3, 4, 5, 8, 0x24, 0x64, 0x7f, 0x80, 0xff, was - 1, was + 1, was ^ 0x80} {
				s[at] = n
				h, m, e := readBySteps(string(s))
				checkRead(t, string(s), h, m, e)
			}
			s[at] = was
		}
	}
}

// P7.2: Find

func TestFind(t *testing.T) {
	l := []api.Field{
		{Kind: 5, Data: "five"}, {Kind: 7}, {Kind: 9, Data: "first"}, {Kind: 9, Data: "second"}, {Kind: 7, Data: "behind none"}, {Kind: 65535, Data: "last"},
		{Kind: 0, Data: "nought"}, {Kind: -1, Data: "below"}, {Kind: 65536, Data: "beyond"}, {Kind: math.MinInt, Data: "least"}, {Kind: math.MaxInt, Data: text(2000)},
	}
	before := slices.Clone(l)
	for _, c := range []struct {
		l    []api.Field
		kind int
		want string
		is   bool
	}{
		{l, 5, "five", true},
		{l, 7, "", true}, // it is there, with no data
		{l, 9, "first", true},
		{l, 65535, "last", true},
		{l, 6, "", false}, {l, 1, "", false}, {l, 65534, "", false}, {l, 5 + 65536, "", false}, {l, -5, "", false}, {l, 5 + 1<<32, "", false},
		{l, 0, "nought", true}, {l, -1, "below", true}, {l, 65536, "beyond", true}, {l, math.MinInt, "least", true}, {l, math.MaxInt, text(2000), true},
		{l[:6], 0, "", false}, {l[:6], -1, "", false}, {l[:6], 65536, "", false}, {l[:6], math.MinInt, "", false}, {l[:6], math.MaxInt, "", false},
		{l[3:], 9, "second", true}, {l[3:], 7, "behind none", true}, {l[3:], 5, "", false},
		{nil, 0, "", false}, {nil, 5, "", false}, {[]api.Field{}, 0, "", false}, {[]api.Field{}, 5, "", false}, {l[:0], 5, "", false},
		{[]api.Field{{}}, 0, "", true},
	} {
		if got, is := head.Find(c.l, c.kind); got != c.want || is != c.is {
			t.Errorf("Find(%s, %d): %q, %t, want %q, %t", shape(c.l), c.kind, got, is, c.want, c.is)
		}
	}
	if !slices.Equal(l, before) {
		t.Errorf("Find changed its list: %s", shape(l))
	}
}

func TestFindOfWhatWasRead(t *testing.T) {
	for _, l := range lists() {
		_, m, _ := head.Read(packetBytes(unlike, l))
		for kind := -1; kind <= 65536; kind++ {
			at := slices.IndexFunc(l, func(f api.Field) bool { return f.Kind == kind })
			want := ""
			if at >= 0 {
				want = l[at].Data
			}
			if got, is := head.Find(m, kind); got != want || is != (at >= 0) {
				t.Fatalf("Find(%s, %d): %q, %t", shape(m), kind, got, is)
			}
		}
	}
}

// R3, R5: nothing is shared, changed or kept

func TestReadSharesNothing(t *testing.T) {
	for _, l := range lists() {
		s := packetBytes(unlike, l)
		_, m, _ := head.Read(s)
		_, n, _ := head.Read(s)
		for i := range m {
			m[i] = api.Field{Kind: 99, Data: "changed"}
		}
		_ = append(m, api.Field{Kind: 98})
		if !slices.Equal(n, l) {
			t.Errorf("what was read ahead of the change: %s, want %s", shape(n), shape(l))
		}
		checkRead(t, s, unlike, l, api.OK)
	}
}

func TestWriteChangesNothing(t *testing.T) {
	for _, l := range append(lists(), wrongFields(), right(17)) {
		room := append(slices.Clone(l), api.Field{Kind: 77, Data: "behind the list"})
		before := slices.Clone(room)
		first, e := head.Write(unlike, room[:len(l)])
		if !slices.Equal(room, before) {
			t.Errorf("Write changed its list: %s, want %s", shape(room), shape(before))
		}
		clear(room)
		if again, f := head.Write(unlike, l); again != first || f != e {
			t.Errorf("Write(%s) once more: %x, %d, want %x, %d", shape(l), again, f, first, e)
		}
	}
}

// P7.3

func TestHeadsComeBack(t *testing.T) {
	for _, h := range append(heads(), wrongHeads()...) {
		s, e := head.Put(h)
		if (e == api.OK) != head.May(h) {
			t.Errorf("Put(%+v): %d, though May tells %t", h, e, head.May(h))
		}
		if e == api.OK {
			checkTake(t, s, h, api.OK)
			checkWrite(t, h, nil, s, api.OK)
		}
	}
}

func TestPacketsComeBack(t *testing.T) {
	for _, h := range heads() {
		for _, l := range lists() {
			s, e := head.Write(h, l)
			if e != api.OK || len(s)%4 != 0 {
				t.Fatalf("Write(%+v, %s): %d bytes, %d", h, shape(l), len(s), e)
			}
			checkRead(t, s, h, l, api.OK)
		}
	}
}

func TestHeadBytesComeBack(t *testing.T) {
	seen := 0
	for _, word := range drawn(2000) {
		b := make([]byte, 48)
		for i, n := range drawn(48) {
			b[i] = byte(n ^ word>>(i%8*8))
		}
		h, e := head.Take(string(b))
		if (e == api.OK) != (b[0]>>3&7 == 4) {
			t.Errorf("Take(%x): %d", b, e)
		}
		if e != api.OK {
			continue
		}
		seen++
		if !head.May(h) {
			t.Errorf("Take(%x): %+v, which may not be", b, h)
		}
		checkPut(t, h, string(b), api.OK)
	}
	if seen < 100 {
		t.Errorf("only %d heads", seen)
	}
}

// some tells bytes that now and then are a packet's: mostly pieces that are right, and a few that aren't.
func some(word uint64) string {
	good := []string{
		laid(1, 4, ""), laid(258, 5, "a\x00\x00\x00"), laid(7, 6, "\x00b\x00\x00"), laid(65535, 7, "abc\x00"), laid(9, 8, "abcd"), laid(9, 8, "\x00\x01\x00\x04"),
		laid(3, 1004, text(1000)), laid(3, 1003, text(999)+"\x00"), laid(4, 9, "abcde\x00\x00\x00"), laid(5, 4, ""), laid(6, 12, laid(6, 8, "abcd")),
	}
	bad := []string{laid(1, 5, "a\x00\x00"), laid(0, 4, ""), laid(1, 3, ""), laid(1, 6, "ab\x00\x01"), "\x00"}
	s := unlikeBytes
	for _, n := range drawn(int(word % 18)) {
		n ^= word >> 7
		piece := good[n%11]
		if n%16 == 0 {
			piece = bad[n/16%5]
		}
		s += piece
	}
	return s
}

func TestPacketBytesComeBack(t *testing.T) {
	seen := map[api.Errno]int{}
	for _, word := range drawn(5000) {
		s := some(word)
		want, l, e := readBySteps(s)
		checkRead(t, s, want, l, e)
		seen[e]++
		if h, m, e := head.Read(s); e == api.OK {
			checkWrite(t, h, m, s, api.OK)
		}
	}
	for _, e := range []api.Errno{api.OK, api.ErrForm, api.ErrMany} {
		if seen[e] < 20 {
			t.Errorf("%d came only %d times", e, seen[e])
		}
	}
}

func FuzzRead(f *testing.F) {
	for _, l := range lists() {
		f.Add(packetBytes(unlike, l))
	}
	for _, word := range drawn(20) {
		f.Add(some(word))
	}
	f.Fuzz(func(t *testing.T, s string) {
		want, l, e := readBySteps(s)
		checkRead(t, s, want, l, e)
		if e == api.OK {
			checkWrite(t, want, l, s, api.OK)
		}
	})
}
