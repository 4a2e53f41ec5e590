package head

import (
	"bytes"
	"math"
	"math/rand"
	"slices"
	"testing"

	"crossbar/api"
)

// top is the greatest number of four bytes.
const top = math.MaxUint32

// same tells whether both are the same header; a list is nil or empty alike.
func same(h, g api.Head) bool {
	return h.HasPad == g.HasPad && h.HasExt == g.HasExt && h.Marker == g.Marker && h.Type == g.Type &&
		h.Seq == g.Seq && h.Time == g.Time && h.Ssrc == g.Ssrc && slices.Equal(h.Csrc, g.Csrc)
}

// isZero tells whether h is the zero header, its list nil.
func isZero(h api.Head) bool {
	return same(h, api.Head{}) && h.Csrc == nil
}

// srcs answers n sources, no two alike.
func srcs(n int) []uint32 {
	l := []uint32{}
	for i := range n {
		l = append(l, 0x01020304+uint32(i)*0x10101010)
	}
	return l
}

// told answers the bytes of h, digit by digit to the base 2, as the chapter puts them.
func told(h api.Head) []byte {
	var digits []byte
	add := func(v uint64, n int) {
		for i := n - 1; i >= 0; i-- {
			digits = append(digits, byte(v>>i&1))
		}
	}
	flag := func(on bool) {
		if on {
			add(1, 1)
		} else {
			add(0, 1)
		}
	}
	add(2, 2)
	flag(h.HasPad)
	flag(h.HasExt)
	add(uint64(len(h.Csrc)), 4)
	flag(h.Marker)
	add(uint64(h.Type), 7)
	add(uint64(h.Seq), 16)
	add(uint64(h.Time), 32)
	add(uint64(h.Ssrc), 32)
	for _, src := range h.Csrc {
		add(uint64(src), 32)
	}
	out := make([]byte, len(digits)/8)
	for i, x := range digits {
		out[i/8] = out[i/8]*2 + x
	}
	return out
}

// zeros answers the bytes of start, and n bytes 0.
func zeros(n int, start ...byte) []byte {
	return append(start, make([]byte, n)...)
}

// forms are headers with their bytes.
var forms = []struct {
	h api.Head
	b []byte
}{
	{api.Head{}, zeros(11, 128)},
	{api.Head{Type: 96, Seq: 1}, zeros(8, 128, 96, 0, 1)},
	{api.Head{HasPad: true}, zeros(11, 160)},
	{api.Head{HasExt: true}, zeros(11, 144)},
	{api.Head{Marker: true}, zeros(10, 128, 128)},
	{api.Head{HasPad: true, HasExt: true, Marker: true}, zeros(10, 176, 128)},
	{api.Head{Type: 1}, zeros(10, 128, 1)},
	{api.Head{Type: 64}, zeros(10, 128, 64)},
	{api.Head{Type: 127}, zeros(10, 128, 127)},
	{api.Head{Type: 127, Marker: true}, zeros(10, 128, 255)},
	{api.Head{Seq: 0x0102}, zeros(8, 128, 0, 1, 2)},
	{api.Head{Seq: 65535}, zeros(8, 128, 0, 255, 255)},
	{api.Head{Time: 0x01020304}, zeros(4, 128, 0, 0, 0, 1, 2, 3, 4)},
	{api.Head{Time: top}, zeros(4, 128, 0, 0, 0, 255, 255, 255, 255)},
	{api.Head{Ssrc: 0x01020304}, []byte{128, 0, 0, 0, 0, 0, 0, 0, 1, 2, 3, 4}},
	{api.Head{Ssrc: top}, []byte{128, 0, 0, 0, 0, 0, 0, 0, 255, 255, 255, 255}},
	{api.Head{Csrc: []uint32{}}, zeros(11, 128)},
	{api.Head{Csrc: []uint32{0}}, zeros(15, 129)},
	{api.Head{Csrc: []uint32{0x01020304}}, append(zeros(11, 129), 1, 2, 3, 4)},
	{api.Head{Csrc: []uint32{top}}, append(zeros(11, 129), 255, 255, 255, 255)},
	{api.Head{Csrc: []uint32{5, 7}}, append(zeros(11, 130), 0, 0, 0, 5, 0, 0, 0, 7)},
	{api.Head{Csrc: []uint32{7, 5, 7}}, append(zeros(11, 131), 0, 0, 0, 7, 0, 0, 0, 5, 0, 0, 0, 7)},
	{api.Head{Csrc: make([]uint32, 15)}, zeros(71, 143)},
	{
		api.Head{HasPad: true, HasExt: true, Marker: true, Type: 127, Seq: 65535, Time: top, Ssrc: top, Csrc: slices.Repeat([]uint32{top}, 15)},
		append([]byte{191}, bytes.Repeat([]byte{255}, 71)...),
	},
	{
		api.Head{HasExt: true, Marker: true, Type: 5, Seq: 6, Time: 7, Ssrc: 8, Csrc: []uint32{9}},
		[]byte{145, 133, 0, 6, 0, 0, 0, 7, 0, 0, 0, 8, 0, 0, 0, 9},
	},
}

// wrong are headers that aren't right.
var wrong = []api.Head{
	{Type: -1},
	{Type: -128},
	{Type: 128},
	{Type: 129},
	{Type: 255},
	{Type: 256},
	{Type: 1 << 32},
	{Type: math.MinInt},
	{Type: math.MinInt + 96},
	{Type: math.MaxInt},
	{Type: -1, Csrc: make([]uint32, 15)},
	{Type: 128, Csrc: make([]uint32, 16)},
	{Csrc: make([]uint32, 16)},
	{Type: 127, Csrc: make([]uint32, 16)},
	{Csrc: make([]uint32, 17)},
	{Csrc: make([]uint32, 32)},
	{Csrc: make([]uint32, 256)},
	{Csrc: make([]uint32, 100000)},
	{HasPad: true, HasExt: true, Marker: true, Type: -1, Seq: 1, Time: 2, Ssrc: 3, Csrc: []uint32{4}},
}

// chance answers some right header.
func chance(r *rand.Rand) api.Head {
	h := api.Head{
		HasPad: r.Intn(2) == 0,
		HasExt: r.Intn(2) == 0,
		Marker: r.Intn(2) == 0,
		Type:   r.Intn(128),
		Seq:    uint16(r.Uint32()),
		Time:   r.Uint32(),
		Ssrc:   r.Uint32(),
	}
	for range r.Intn(16) {
		h.Csrc = append(h.Csrc, r.Uint32())
	}
	return h
}

// checkHead holds what is said of h, which is right, against b, its bytes.
func checkHead(t *testing.T, h api.Head, b []byte) {
	t.Helper()
	if !Right(h) {
		t.Errorf("Right(%v) is false", h)
	}
	if n := Size(h); n != len(b) {
		t.Errorf("Size(%v) = %d; want %d", h, n, len(b))
	}
	if x, err := Write(h); !bytes.Equal(x, b) || err != api.OK {
		t.Errorf("Write(%v) = %v, %d; want %v", h, x, err, b)
	}
}

// checkRead holds what is read of b against h and how many bytes it has.
func checkRead(t *testing.T, b []byte, h api.Head, size int) {
	t.Helper()
	if g, n, err := Read(b); !same(g, h) || n != size || err != api.OK {
		t.Errorf("Read(%v) = %v, %d, %d; want %v, %d", b, g, n, err, h, size)
	}
}

// checkRefused tells an error, if b is read, or not refused by want.
func checkRefused(t *testing.T, b []byte, want api.Errno) {
	t.Helper()
	if h, n, err := Read(b); !isZero(h) || n != 0 || err != want {
		t.Errorf("Read(%v) = %v, %d, %d; want none, 0, %d", b, h, n, err, want)
	}
}

// P5.1

func TestHeadersHaveTheirBytes(t *testing.T) {
	for _, c := range forms {
		checkHead(t, c.h, c.b)
	}
}

func TestEveryType(t *testing.T) {
	for kind := -300; kind <= 300; kind++ {
		h := api.Head{Type: kind, Ssrc: 9, Csrc: []uint32{1}}
		want := kind >= 0 && kind <= 127
		if Right(h) != want {
			t.Errorf("Right with type %d: %v", kind, !want)
		}
		if !want {
			continue
		}
		checkHead(t, h, told(h))
		h.Marker = true
		checkHead(t, h, told(h))
	}
}

func TestEveryCountOfSources(t *testing.T) {
	for n := range 40 {
		h := api.Head{Type: 96, Csrc: srcs(n)}
		want := n <= 15
		if Right(h) != want {
			t.Errorf("Right with %d sources: %v", n, !want)
		}
		if want {
			checkHead(t, h, told(h))
		}
		if size := Size(h); want && size != 12+4*n || !want && size != 0 {
			t.Errorf("Size with %d sources: %d", n, size)
		}
	}
}

// Flags and numbers are bound by nothing but their kinds.
func TestEachFieldAtItsEnds(t *testing.T) {
	for _, on := range []bool{false, true} {
		for _, seq := range []uint16{0, 1, 255, 256, 1 << 15, 65535} {
			for _, v := range []uint32{0, 1, 255, 256, 1 << 16, 1 << 31, top} {
				for _, h := range []api.Head{
					{HasPad: on, Seq: seq, Time: v},
					{HasExt: on, Seq: seq, Ssrc: v},
					{Marker: on, Seq: seq, Csrc: []uint32{v, 1}},
				} {
					b := told(h)
					checkHead(t, h, b)
					checkRead(t, b, h, len(b))
				}
			}
		}
	}
}

func TestWrongHeadersHaveNoBytes(t *testing.T) {
	for _, h := range wrong {
		if Right(h) {
			t.Errorf("Right with type %d and %d sources", h.Type, len(h.Csrc))
		}
		if n := Size(h); n != 0 {
			t.Errorf("Size with type %d and %d sources: %d", h.Type, len(h.Csrc), n)
		}
		if b, err := Write(h); b != nil || err != api.ErrArg {
			t.Errorf("Write with type %d and %d sources: %v, %d", h.Type, len(h.Csrc), b, err)
		}
	}
}

// P5.2

func TestReadOfForms(t *testing.T) {
	for _, c := range forms {
		checkRead(t, c.b, c.h, len(c.b))
	}
}

func TestBytesBehindAreLeft(t *testing.T) {
	for _, c := range forms {
		for _, x := range []byte{0, 1, 128, 255} {
			for _, n := range []int{1, 3, 4, 12, 60, 70000} {
				b := append(bytes.Clone(c.b), bytes.Repeat([]byte{x}, n)...)
				if h, size, err := Read(b); !same(h, c.h) || size != len(c.b) || err != api.OK {
					t.Errorf("Read(%v) with %d bytes %d behind = %v, %d, %d", c.b, n, x, h, size, err)
				}
			}
		}
	}
}

func TestNoSourcesAreNone(t *testing.T) {
	if h, _, _ := Read(zeros(40, 128)); len(h.Csrc) != 0 {
		t.Error(h)
	}
}

// Fewer than 12 bytes are too short before any of them is looked at.
func TestReadOfFewBytes(t *testing.T) {
	checkRefused(t, nil, api.ErrShort)
	checkRefused(t, []byte{}, api.ErrShort)
	for n := 1; n < 12; n++ {
		for first := range 256 {
			checkRefused(t, zeros(n-1, byte(first)), api.ErrShort)
			checkRefused(t, append([]byte{byte(first)}, bytes.Repeat([]byte{255}, n-1)...), api.ErrShort)
		}
	}
}

// From 12 bytes on, another version is told ahead of bytes that are missing.
func TestReadOfAnotherVersion(t *testing.T) {
	for first := range 256 {
		if first/64 == 2 {
			continue
		}
		for n := 12; n <= 80; n++ {
			checkRefused(t, zeros(n-1, byte(first)), api.ErrVersion)
			checkRefused(t, append([]byte{byte(first)}, bytes.Repeat([]byte{170}, n-1)...), api.ErrVersion)
		}
	}
}

func TestReadOfCutHeaders(t *testing.T) {
	for _, flags := range []byte{0, 16, 32, 48} {
		for count := range 16 {
			size := 12 + 4*count
			b := append([]byte{128 + flags + byte(count)}, bytes.Repeat([]byte{255}, size-1)...)
			for n := range size {
				checkRefused(t, b[:n], api.ErrShort)
			}
			if _, n, err := Read(b); n != size || err != api.OK {
				t.Errorf("Read with %d sources: %d, %d", count, n, err)
			}
		}
	}
}

func TestSpareRoomIsNoBytes(t *testing.T) {
	room := zeros(60, 131)
	checkRefused(t, room[:0], api.ErrShort)
	checkRefused(t, room[:11], api.ErrShort)
	checkRefused(t, room[:12], api.ErrShort)
	checkRefused(t, room[:23], api.ErrShort)
	checkRead(t, room[:24], api.Head{Csrc: make([]uint32, 3)}, 24)
}

// P5.3

func TestHeadersAreReadAsTheyWere(t *testing.T) {
	r := rand.New(rand.NewSource(7))
	for range 20000 {
		h := chance(r)
		b, err := Write(h)
		if err != api.OK || !bytes.Equal(b, told(h)) || len(b) != Size(h) {
			t.Fatalf("Write(%v) = %v, %d", h, b, err)
		}
		behind := make([]byte, r.Intn(100))
		r.Read(behind)
		if g, n, err := Read(append(b, behind...)); !same(g, h) || n != Size(h) || err != api.OK {
			t.Fatalf("Read(%v) = %v, %d, %d; want %v", b, g, n, err, h)
		}
	}
}

// Whatever is read has just the bytes that it was read from.
func TestBytesAreOfOneHeaderAlone(t *testing.T) {
	r := rand.New(rand.NewSource(8))
	b := make([]byte, 80)
	for first := 128; first < 192; first++ {
		for second := range 256 {
			r.Read(b)
			b[0], b[1] = byte(first), byte(second)
			h, n, err := Read(b)
			if err != api.OK || !Right(h) || n != Size(h) {
				t.Fatalf("Read(%v) = %v, %d, %d", b, h, n, err)
			}
			if x, err := Write(h); !bytes.Equal(x, b[:n]) || err != api.OK {
				t.Fatalf("Write(%v) = %v, %d; want %v", h, x, err, b[:n])
			}
		}
	}
}

// A bit that is turned over makes another header, or none.
func TestEveryBitCounts(t *testing.T) {
	r := rand.New(rand.NewSource(9))
	for range 200 {
		h := chance(r)
		b, _ := Write(h)
		for bit := range 8 * len(b) {
			b[bit/8] ^= 0x80 >> (bit % 8)
			if g, _, err := Read(b); err == api.OK && same(g, h) {
				t.Fatalf("%v is %v as well", b, h)
			}
			b[bit/8] ^= 0x80 >> (bit % 8)
		}
	}
}

func TestAnyBytesAreReadOrRefused(t *testing.T) {
	r := rand.New(rand.NewSource(10))
	for range 50000 {
		b := make([]byte, r.Intn(90))
		r.Read(b)
		h, n, err := Read(b)
		switch {
		case err == api.OK:
			if x, _ := Write(h); n > len(b) || !bytes.Equal(x, b[:n]) {
				t.Fatalf("Read(%v) = %v, %d", b, h, n)
			}
		case err != api.ErrShort && err != api.ErrVersion || !isZero(h) || n != 0:
			t.Fatalf("Read(%v) = %v, %d, %d", b, h, n, err)
		}
	}
}

// Rule 3: what is handed in is neither changed nor kept, its spare room neither.

func TestWriteLeavesTheHeaderAlone(t *testing.T) {
	room := srcs(15)
	before := slices.Clone(room)
	for n := range 16 {
		h := api.Head{Type: 96, Csrc: room[:n]}
		Right(h)
		Size(h)
		b, _ := Write(h)
		b = append(b, 5)
		for i := range b {
			b[i] = 77
		}
		if !slices.Equal(room, before) {
			t.Fatalf("%v was changed to %v", before, room)
		}
		checkHead(t, h, told(h))
	}
}

func TestReadLeavesTheBytesAlone(t *testing.T) {
	h := api.Head{HasExt: true, Type: 96, Seq: 1, Csrc: srcs(15)}
	room := append(told(h), 9, 9, 9, 9)
	before := bytes.Clone(room)
	g, _, _ := Read(room[:72])
	if !bytes.Equal(room, before) {
		t.Errorf("%v was changed to %v", before, room)
	}
	for i := range room {
		room[i] = 77
	}
	if !same(g, h) {
		t.Errorf("%v is now %v", h, g)
	}
}
