package packet

import (
	"bytes"
	"math"
	"math/rand"
	"slices"
	"testing"

	"crossbar/api"
)

// top is the greatest number of four bytes.
const top = math.MaxUint32

// manyRoom is more than any packet has.
const manyRoom = 1 << 30

// sameHead tells whether both are the same header; a list is nil or empty alike.
func sameHead(h, g api.Head) bool {
	return h.HasPad == g.HasPad && h.HasExt == g.HasExt && h.Marker == g.Marker && h.Type == g.Type &&
		h.Seq == g.Seq && h.Time == g.Time && h.Ssrc == g.Ssrc && slices.Equal(h.Csrc, g.Csrc)
}

// same tells whether both are the same packet; a list is nil or empty alike.
func same(p, q api.Packet) bool {
	return sameHead(p.Head, q.Head) && p.Profile == q.Profile && bytes.Equal(p.Ext, q.Ext) &&
		bytes.Equal(p.Payload, q.Payload) && p.Pad == q.Pad
}

// isZero tells whether p is the zero packet.
func isZero(p api.Packet) bool {
	return same(p, api.Packet{})
}

// zeros answers the bytes of start, and n bytes 0.
func zeros(n int, start ...byte) []byte {
	return append(start, make([]byte, n)...)
}

// chain answers the lists one behind the other.
func chain(l ...[]byte) []byte {
	return slices.Concat(l...)
}

// filled answers n bytes, no two neighbours alike.
func filled(n int) []byte {
	b := make([]byte, n)
	for i := range b {
		b[i] = byte(i%251 + 1)
	}
	return b
}

// number answers the n bytes of v, the highest first.
func number(v uint32, n int) []byte {
	b := make([]byte, n)
	for i := range b {
		b[i] = byte(v >> (8 * (n - 1 - i)))
	}
	return b
}

// told answers the bytes of p as the chapter puts them.
func told(p api.Packet) []byte {
	h := p.Head
	first, second := byte(128+len(h.Csrc)), byte(h.Type)
	if h.HasPad {
		first += 32
	}
	if h.HasExt {
		first += 16
	}
	if h.Marker {
		second += 128
	}
	b := chain([]byte{first, second}, number(uint32(h.Seq), 2), number(h.Time, 4), number(h.Ssrc, 4))
	for _, src := range h.Csrc {
		b = append(b, number(src, 4)...)
	}
	if h.HasExt {
		b = chain(b, number(uint32(p.Profile), 2), number(uint32(len(p.Ext)/4), 2), p.Ext)
	}
	b = append(b, p.Payload...)
	if h.HasPad {
		b = append(zeros(p.Pad-1, b...), byte(p.Pad))
	}
	return b
}

var (
	withExt  = api.Head{HasExt: true}
	withPad  = api.Head{HasPad: true}
	withBoth = api.Head{HasExt: true, HasPad: true}
)

// Fixed headers of which nothing is set but the flags.
var (
	plainBytes = zeros(11, 128)
	extsBytes  = zeros(11, 144)
	padBytes   = zeros(11, 160)
	bothBytes  = zeros(11, 176)
)

// forms answers packets with their bytes.
func forms() []form {
	return []form{
		{api.Packet{}, plainBytes},
		{api.Packet{Ext: []byte{}, Payload: []byte{}}, plainBytes},
		{api.Packet{Payload: []byte{0}}, zeros(12, 128)},
		{api.Packet{Payload: []byte{7, 8, 9}}, chain(plainBytes, []byte{7, 8, 9})},
		{api.Packet{Head: api.Head{Type: 96, Seq: 1, Csrc: []uint32{5}}, Payload: []byte{255}}, []byte{129, 96, 0, 1, 0, 0, 0, 0, 0, 0, 0, 0, 0, 0, 0, 5, 255}},
		{api.Packet{Head: withExt}, chain(extsBytes, zeros(4))},
		{api.Packet{Head: withExt, Ext: []byte{}}, chain(extsBytes, zeros(4))},
		{api.Packet{Head: withExt, Profile: 0x0102}, chain(extsBytes, []byte{1, 2, 0, 0})},
		{api.Packet{Head: withExt, Profile: 65535}, chain(extsBytes, []byte{255, 255, 0, 0})},
		{api.Packet{Head: withExt, Payload: []byte{1}}, chain(extsBytes, []byte{0, 0, 0, 0, 1})},
		{api.Packet{Head: withExt, Profile: 65535, Ext: zeros(4)}, chain(extsBytes, []byte{255, 255, 0, 1, 0, 0, 0, 0})},
		{api.Packet{Head: withExt, Profile: 0xBEDE, Ext: []byte{48, 7, 0, 0}, Payload: []byte{9}}, chain(extsBytes, []byte{190, 222, 0, 1, 48, 7, 0, 0, 9})},
		{api.Packet{Head: withExt, Ext: filled(8)}, chain(extsBytes, []byte{0, 0, 0, 2, 1, 2, 3, 4, 5, 6, 7, 8})},
		{api.Packet{Head: withExt, Ext: filled(1024), Payload: []byte{1, 2}}, chain(extsBytes, []byte{0, 0, 1, 0}, filled(1024), []byte{1, 2})},
		{api.Packet{Head: withPad, Pad: 1}, chain(padBytes, []byte{1})},
		{api.Packet{Head: withPad, Pad: 2}, chain(padBytes, []byte{0, 2})},
		{api.Packet{Head: withPad, Payload: []byte{7}, Pad: 2}, chain(padBytes, []byte{7, 0, 2})},
		{api.Packet{Head: withPad, Payload: []byte{0, 0}, Pad: 1}, chain(padBytes, []byte{0, 0, 1})},
		{api.Packet{Head: withPad, Pad: 255}, chain(padBytes, zeros(254), []byte{255})},
		{api.Packet{Head: withPad, Payload: []byte{3, 3, 3}, Pad: 255}, chain(padBytes, []byte{3, 3, 3}, zeros(254), []byte{255})},
		{api.Packet{Head: withBoth, Pad: 1}, chain(bothBytes, []byte{0, 0, 0, 0, 1})},
		{api.Packet{Head: withBoth, Profile: 0x1000, Ext: filled(4), Payload: []byte{5}, Pad: 3}, chain(bothBytes, []byte{16, 0, 0, 1, 1, 2, 3, 4, 5, 0, 0, 3})},
		{
			api.Packet{
				Head:    api.Head{HasPad: true, HasExt: true, Marker: true, Type: 127, Seq: 65535, Time: top, Ssrc: top, Csrc: []uint32{1, top}},
				Profile: 65535, Ext: filled(4), Payload: []byte{6}, Pad: 1,
			},
			chain([]byte{178}, bytes.Repeat([]byte{255}, 11), []byte{0, 0, 0, 1, 255, 255, 255, 255, 255, 255, 0, 1, 1, 2, 3, 4, 6, 1}),
		},
	}
}

// form is a packet with its bytes.
type form struct {
	p api.Packet
	b []byte
}

// full answers packets of 65535 bytes in all.
func full() []api.Packet {
	return []api.Packet{
		{Payload: filled(65523)},
		{Head: api.Head{Csrc: make([]uint32, 15)}, Payload: filled(65463)},
		{Head: withExt, Payload: filled(65519)},
		{Head: withExt, Ext: filled(65516), Payload: []byte{1, 2, 3}},
		{Head: withPad, Payload: filled(65522), Pad: 1},
		{Head: withPad, Payload: filled(65268), Pad: 255},
		{Head: withBoth, Ext: filled(65516), Pad: 3},
		{Head: withBoth, Ext: filled(65264), Pad: 255},
		{Head: api.Head{HasExt: true, HasPad: true, Csrc: make([]uint32, 15)}, Ext: filled(400), Payload: filled(65051), Pad: 8},
	}
}

// wrong answers packets that aren't right.
func wrong() []api.Packet {
	l := []api.Packet{
		{Head: api.Head{Type: -1}},
		{Head: api.Head{Type: 128}},
		{Head: api.Head{Csrc: make([]uint32, 16)}},
		{Head: api.Head{Type: 128, HasExt: true, HasPad: true}, Pad: 1},
		{Profile: 1},
		{Profile: 65535},
		{Ext: []byte{1}},
		{Ext: zeros(4)},
		{Profile: 1, Ext: zeros(4)},
		{Head: withPad, Profile: 1, Pad: 1},
		{Head: withPad, Ext: zeros(4), Pad: 1},
		{Head: withExt, Ext: zeros(1)},
		{Head: withExt, Ext: zeros(2)},
		{Head: withExt, Ext: zeros(3)},
		{Head: withExt, Ext: zeros(5)},
		{Head: withExt, Ext: zeros(65513)},
		{Head: withBoth, Ext: zeros(7), Pad: 1},
		{Head: withExt, Ext: zeros(65535 * 4)},
		{Head: withExt, Ext: zeros(65536 * 4)},
		{Head: withExt, Ext: zeros(65536*4 + 4)},
		{Head: withExt, Ext: zeros(65520)},
		{Head: withExt, Ext: zeros(65516), Payload: zeros(4)},
		{Payload: zeros(65524)},
		{Payload: zeros(65536)},
		{Payload: zeros(1 << 20)},
	}
	for _, n := range []int{1, 2, 255, 256, -1, -255, math.MaxInt, math.MinInt} {
		l = append(l, api.Packet{Pad: n}, api.Packet{Head: withExt, Pad: n}, api.Packet{Payload: filled(20), Pad: n})
	}
	for _, n := range []int{0, -1, -12, 256, 257, 511, 1 << 16, 1 << 32, 1<<32 + 1, math.MaxInt, math.MinInt, math.MinInt + 1} {
		l = append(l, api.Packet{Head: withPad, Pad: n}, api.Packet{Head: withBoth, Pad: n}, api.Packet{Head: withPad, Payload: filled(2000), Pad: n})
	}
	return l
}

// chance answers some right packet.
func chance(r *rand.Rand) api.Packet {
	p := api.Packet{
		Head: api.Head{
			HasPad: r.Intn(2) == 0,
			HasExt: r.Intn(2) == 0,
			Marker: r.Intn(2) == 0,
			Type:   r.Intn(128),
			Seq:    uint16(r.Uint32()),
			Time:   r.Uint32(),
			Ssrc:   r.Uint32(),
		},
		Payload: make([]byte, r.Intn(40)),
	}
	r.Read(p.Payload)
	for range r.Intn(16) {
		p.Head.Csrc = append(p.Head.Csrc, r.Uint32())
	}
	if p.Head.HasExt {
		p.Profile = uint16(r.Uint32())
		p.Ext = make([]byte, 4*r.Intn(10))
		r.Read(p.Ext)
	}
	if p.Head.HasPad {
		p.Pad = 1 + r.Intn(255)
	}
	return p
}

// checkPacket holds what is said of p, which is right, against b, its bytes.
func checkPacket(t *testing.T, p api.Packet, b []byte) {
	t.Helper()
	if !Right(p) {
		t.Errorf("Right(%v) is false", p)
	}
	if n := Size(p); n != len(b) {
		t.Errorf("Size(%v) = %d; want %d", p, n, len(b))
	}
	for _, room := range []int{len(b), len(b) + 1, 65535, 65536, manyRoom, math.MaxInt} {
		if x, err := Write(p, room); room >= len(b) && (!bytes.Equal(x, b) || err != api.OK) {
			t.Errorf("Write(%v, %d) = %v, %d; want %v", p, room, x, err, b)
		}
	}
	for _, room := range []int{len(b) - 1, 11, 1, 0, -1, -65536, math.MinInt} {
		if x, err := Write(p, room); len(x) != 0 || err != api.ErrRoom {
			t.Errorf("Write(%v, %d) = %v, %d; want none, %d", p, room, x, err, api.ErrRoom)
		}
	}
}

// checkRead holds what is read of b against p, and whether its bytes are canonical.
func checkRead(t *testing.T, b []byte, p api.Packet, canon bool) {
	t.Helper()
	if q, err := Read(b); !same(q, p) || err != api.OK {
		t.Errorf("Read(%v) = %v, %d; want %v", b, q, err, p)
	}
	if Canon(b) != canon {
		t.Errorf("Canon(%v) = %v", b, !canon)
	}
}

// checkRefused tells an error, if b is read, or not refused by want.
func checkRefused(t *testing.T, b []byte, want api.Errno) {
	t.Helper()
	if p, err := Read(b); !isZero(p) || err != want {
		t.Errorf("Read of %d bytes %v = %v, %d; want none, %d", len(b), b[:min(len(b), 40)], p, err, want)
	}
	if Canon(b) {
		t.Errorf("Canon of %d bytes %v", len(b), b[:min(len(b), 40)])
	}
}

// P6.1

func TestPacketsHaveTheirBytes(t *testing.T) {
	for _, c := range forms() {
		checkPacket(t, c.p, c.b)
	}
}

func TestFullPackets(t *testing.T) {
	for _, p := range full() {
		b := told(p)
		if len(b) != 65535 {
			t.Fatal(len(b))
		}
		checkPacket(t, p, b)
		checkRead(t, b, p, true)
	}
}

// What would have one byte more than a packet may have isn't right.
func TestOneByteMoreThanFull(t *testing.T) {
	for _, p := range full() {
		p.Payload = append(bytes.Clone(p.Payload), 1)
		checkWrong(t, p)
		p.Payload = p.Payload[:len(p.Payload)-1]
		if p.Head.HasPad && p.Pad < 255 {
			p.Pad++
			checkWrong(t, p)
		}
	}
}

// checkWrong tells an error, if p is said to be right, or has bytes.
func checkWrong(t *testing.T, p api.Packet) {
	t.Helper()
	if Right(p) {
		t.Errorf("Right of %v, %d and %d bytes, Pad %d", p.Head, len(p.Ext), len(p.Payload), p.Pad)
	}
	if n := Size(p); n != 0 {
		t.Errorf("Size of %v, %d and %d bytes, Pad %d: %d", p.Head, len(p.Ext), len(p.Payload), p.Pad, n)
	}
	for _, room := range []int{manyRoom, math.MaxInt, 65536, 65535, 12, 0, -1, math.MinInt} {
		if b, err := Write(p, room); len(b) != 0 || err != api.ErrArg {
			t.Errorf("Write of %v, %d and %d bytes, Pad %d, room %d: %d bytes, %d", p.Head, len(p.Ext), len(p.Payload), p.Pad, room, len(b), err)
		}
	}
}

func TestWrongPacketsHaveNoBytes(t *testing.T) {
	for _, p := range wrong() {
		checkWrong(t, p)
	}
}

func TestEveryPad(t *testing.T) {
	for n := -300; n <= 600; n++ {
		for _, has := range []bool{false, true} {
			p := api.Packet{Head: api.Head{HasPad: has}, Payload: []byte{1, 2, 3}, Pad: n}
			if has && n >= 1 && n <= 255 || !has && n == 0 {
				checkPacket(t, p, told(p))
				checkRead(t, told(p), p, true)
			} else {
				checkWrong(t, p)
			}
		}
	}
}

func TestEverySizeOfAnExtension(t *testing.T) {
	for n := range 70 {
		p := api.Packet{Head: withExt, Profile: 3, Ext: filled(n), Payload: []byte{4}}
		if n%4 == 0 {
			checkPacket(t, p, told(p))
			checkRead(t, told(p), p, true)
		} else {
			checkWrong(t, p)
		}
	}
}

// P6.2

func TestReadOfForms(t *testing.T) {
	for _, c := range forms() {
		checkRead(t, c.b, c.p, true)
	}
}

// More bytes than a packet may have are told ahead of all else.
func TestReadOfTooManyBytes(t *testing.T) {
	for _, n := range []int{65536, 65537, 1 << 17, 1 << 20} {
		for first := range 256 {
			checkRefused(t, zeros(n-1, byte(first)), api.ErrLength)
		}
	}
}

func TestReadOfWrongHeaders(t *testing.T) {
	for n := range 12 {
		for first := range 256 {
			checkRefused(t, bytes.Repeat([]byte{byte(first)}, n), api.ErrShort)
		}
	}
	for first := range 256 {
		if first/64 == 2 {
			continue
		}
		for _, n := range []int{12, 13, 16, 80, 65535} {
			checkRefused(t, zeros(n-1, byte(first)), api.ErrVersion)
		}
	}
	for count := range 16 {
		for _, flags := range []byte{0, 16, 32, 48} {
			for n := 12; n < 12+4*count; n++ {
				checkRefused(t, append([]byte{128 + flags + byte(count)}, bytes.Repeat([]byte{1}, n-1)...), api.ErrShort)
			}
		}
	}
}

// Bytes that are missing from an extension are told ahead of a trailer that can't be.
func TestReadOfCutExtensions(t *testing.T) {
	for _, h := range []api.Head{withExt, withBoth, {HasExt: true, HasPad: true, Csrc: make([]uint32, 15)}} {
		for words := range 5 {
			p := api.Packet{Head: h, Profile: 0x0101, Ext: bytes.Repeat([]byte{1}, 4*words)}
			size := 16 + 4*len(h.Csrc) + 4*words
			if h.HasPad {
				p.Pad = 1
			}
			b := told(p)
			for n := 12 + 4*len(h.Csrc); n < size; n++ {
				checkRefused(t, b[:n], api.ErrShort)
			}
			checkRead(t, b, p, true)
		}
	}
}

func TestManyWordsAreTold(t *testing.T) {
	most := chain(extsBytes, []byte{0, 0, 255, 255})
	checkRefused(t, most, api.ErrShort)
	checkRefused(t, zeros(65535-len(most), most...), api.ErrShort)
	// 16379 words fit, with three bytes behind them; one word more has but three of its bytes.
	fit := zeros(65519, chain(extsBytes, []byte{0, 0, 63, 251})...)
	checkRead(t, fit, api.Packet{Head: withExt, Ext: zeros(65516), Payload: zeros(3)}, true)
	fit[15]++
	checkRefused(t, fit, api.ErrShort)
}

func TestReadOfTrailersThatCantBe(t *testing.T) {
	checkRefused(t, padBytes, api.ErrPadding)
	checkRefused(t, chain(bothBytes, zeros(4)), api.ErrPadding)
	checkRefused(t, chain(bothBytes, []byte{0, 0, 0, 1, 1, 1, 1, 1}), api.ErrPadding)
	checkRefused(t, zeros(65535-12, padBytes...), api.ErrPadding)
	// The trailer must stand behind the header and the extension, wherever they end.
	starts := [][]byte{
		padBytes,
		zeros(31, 165),
		chain(bothBytes, []byte{1, 1, 0, 0}),
		chain(bothBytes, []byte{1, 1, 0, 2}, bytes.Repeat([]byte{1}, 8)),
	}
	for _, start := range starts {
		for left := 1; left <= 260; left++ {
			for _, last := range []int{0, 1, left - 1, left, left + 1, len(start) + left, 255} {
				if last <= 255 {
					checkTrailer(t, start, left, last)
				}
			}
		}
	}
}

// checkTrailer holds what is read, where so many bytes are left behind start, against what the last one of them asks.
func checkTrailer(t *testing.T, start []byte, left, last int) {
	t.Helper()
	b := chain(start, bytes.Repeat([]byte{1}, left-1), []byte{byte(last)})
	if last == 0 || last > left {
		checkRefused(t, b, api.ErrPadding)
		return
	}
	if p, err := Read(b); err != api.OK || p.Pad != last || len(p.Payload) != left-last {
		t.Errorf("Read(%v) = %v, %d", b, p, err)
	}
}

// Without HasPad, the last byte is one like others.
func TestNoTrailerWithoutHasPad(t *testing.T) {
	for last := range 256 {
		checkRead(t, chain(plainBytes, []byte{0, byte(last)}), api.Packet{Payload: []byte{0, byte(last)}}, true)
		checkRead(t, chain(extsBytes, []byte{0, 0, 0, 0, byte(last)}), api.Packet{Head: withExt, Payload: []byte{byte(last)}}, true)
	}
}

// Without HasExt, what looks like an extension is payload.
func TestNoExtensionWithoutHasExt(t *testing.T) {
	b := chain(plainBytes, []byte{190, 222, 0, 1, 48, 7, 0, 0, 9})
	checkRead(t, b, api.Packet{Payload: b[12:]}, true)
}

func TestSpareRoomIsNoBytes(t *testing.T) {
	room := chain(bothBytes, []byte{0, 5, 0, 1, 1, 2, 3, 4, 9, 0, 2, 1, 1, 1, 1})
	for n, want := range map[int]api.Errno{0: api.ErrShort, 11: api.ErrShort, 12: api.ErrShort, 15: api.ErrShort, 16: api.ErrShort, 19: api.ErrShort, 20: api.ErrPadding} {
		checkRefused(t, room[:n], want)
	}
	checkRead(t, room[:23], api.Packet{Head: withBoth, Profile: 5, Ext: []byte{1, 2, 3, 4}, Payload: []byte{9}, Pad: 2}, true)
}

// P6.3

// One byte of a trailer that is another than 0 is enough; it is no part of the packet.
func TestTrailersThatArentClean(t *testing.T) {
	for _, p := range []api.Packet{
		{Head: withPad, Pad: 2},
		{Head: withPad, Payload: []byte{1, 2, 3}, Pad: 2},
		{Head: withPad, Payload: []byte{1, 2, 3}, Pad: 9},
		{Head: withPad, Payload: []byte{1}, Pad: 255},
		{Head: withBoth, Profile: 9, Ext: filled(8), Pad: 255},
		{Head: withBoth, Profile: 9, Ext: filled(8), Payload: filled(3), Pad: 4},
	} {
		b := told(p)
		checkRead(t, b, p, true)
		for at := len(b) - p.Pad; at < len(b)-1; at++ {
			for _, x := range []byte{1, 2, 128, 255} {
				b[at] = x
				checkRead(t, b, p, false)
			}
			b[at] = 0
		}
		for i := len(b) - p.Pad; i < len(b)-1; i++ {
			b[i] = byte(i%255 + 1)
		}
		checkRead(t, b, p, false)
	}
}

// What stands ahead of the trailer need not be 0.
func TestPayloadsAheadOfTrailers(t *testing.T) {
	for x := range 256 {
		p := api.Packet{Head: withPad, Payload: []byte{byte(x)}, Pad: 2}
		checkRead(t, chain(padBytes, []byte{byte(x), 0, 2}), p, true)
		p.Pad = 1
		checkRead(t, chain(padBytes, []byte{byte(x), 1}), p, true)
	}
}

// P6.4

func TestPacketsAreReadAsTheyWere(t *testing.T) {
	r := rand.New(rand.NewSource(11))
	for range 20000 {
		p := chance(r)
		b, err := Write(p, Size(p))
		if err != api.OK || !bytes.Equal(b, told(p)) || !Right(p) {
			t.Fatalf("Write(%v) = %v, %d", p, b, err)
		}
		if q, err := Read(b); !same(q, p) || err != api.OK || !Canon(b) {
			t.Fatalf("Read(%v) = %v, %d; want %v", b, q, err, p)
		}
	}
}

// checkAny holds whatever b is read as against what is written of it.
func checkAny(t *testing.T, b []byte) {
	t.Helper()
	p, err := Read(b)
	if err != api.OK {
		if err != api.ErrShort && err != api.ErrVersion && err != api.ErrPadding || !isZero(p) || Canon(b) {
			t.Fatalf("Read(%v) = %v, %d", b, p, err)
		}
		return
	}
	x, err := Write(p, len(b))
	if err != api.OK || !Right(p) || Size(p) != len(b) || len(x) != len(b) {
		t.Fatalf("%v is read as %v, written as %v, %d", b, p, x, err)
	}
	if bytes.Equal(x, b) != Canon(b) {
		t.Fatalf("Canon(%v) = %v; written is %v", b, Canon(b), x)
	}
	if n := len(b) - p.Pad; !bytes.Equal(x[:n], b[:n]) {
		t.Fatalf("%v is written as %v", b, x)
	}
	if q, err := Read(x); !same(q, p) || err != api.OK {
		t.Fatalf("%v is read as %v, %d; want %v", x, q, err, p)
	}
}

func TestAnyBytesAreReadOrRefused(t *testing.T) {
	r := rand.New(rand.NewSource(12))
	for range 50000 {
		b := make([]byte, r.Intn(60))
		r.Read(b)
		checkAny(t, b)
		// Of such as are read more often: few sources and words, and a short trailer, clean or not.
		if len(b) < 16 {
			continue
		}
		b[0] = 128 | b[0]&0x31
		b[len(b)-1] %= 8
		if b[0]&1 == 0 {
			b[14], b[15] = 0, b[15]%8
		}
		checkAny(t, b)
		for i := range b[len(b)-3 : len(b)-1] {
			b[len(b)-3+i] &= byte(r.Intn(2))
		}
		checkAny(t, b)
	}
}

// Rule 3: what is handed in is neither changed nor kept, its spare room neither; no two lists share memory.

func TestWriteLeavesThePacketAlone(t *testing.T) {
	room := filled(100)
	before := bytes.Clone(room)
	srcs := []uint32{1, 2, 3, 4}
	p := api.Packet{Head: api.Head{HasExt: true, HasPad: true, Csrc: srcs[:2]}, Profile: 7, Ext: room[:8], Payload: room[8:20], Pad: 5}
	want := told(p)
	Right(p)
	Size(p)
	b, _ := Write(p, manyRoom)
	for i := range b {
		b[i] = 77
	}
	if !bytes.Equal(room, before) || !slices.Equal(srcs, []uint32{1, 2, 3, 4}) {
		t.Fatalf("%v was changed to %v", before, room)
	}
	checkPacket(t, p, want)
}

func TestReadLeavesTheBytesAlone(t *testing.T) {
	p := api.Packet{Head: api.Head{HasExt: true, HasPad: true, Csrc: []uint32{1, 2}}, Profile: 7, Ext: filled(8), Payload: filled(12), Pad: 5}
	b := told(p)
	room := append(bytes.Clone(b), 9, 9, 9, 9)
	before := bytes.Clone(room)
	q, _ := Read(room[:len(b)])
	Canon(room[:len(b)])
	if !bytes.Equal(room, before) {
		t.Fatalf("%v was changed to %v", before, room)
	}
	for i := range room {
		room[i] = 77
	}
	if !same(q, p) {
		t.Errorf("%v is now %v", p, q)
	}
	q.Ext = append(q.Ext, 1, 1, 1, 1)
	q.Payload = append(q.Payload, 2, 2, 2, 2)
	for i := range room {
		if room[i] != 77 {
			t.Fatalf("%v was changed by what was answered", room)
		}
	}
	if !bytes.Equal(q.Payload[:12], filled(12)) {
		t.Errorf("Payload shares memory with Ext: %v", q.Payload)
	}
}
