package place

import (
	"bytes"
	"math"
	"math/big"
	"math/rand"
	"slices"
	"testing"

	"crossbar/api"
	"crossbar/packet"
)

// fields are all that a packet has, in their order.
var fields = []int{
	api.FieldFlags, api.FieldType, api.FieldSeq, api.FieldTime, api.FieldSsrc, api.FieldCsrc,
	api.FieldProfile, api.FieldWords, api.FieldExt, api.FieldPayload, api.FieldFill, api.FieldCount,
}

var (
	withExt  = api.Head{HasExt: true}
	withPad  = api.Head{HasPad: true}
	withBoth = api.Head{HasExt: true, HasPad: true}
)

// filled answers n bytes, no two neighbours alike.
func filled(n int) []byte {
	b := make([]byte, n)
	for i := range b {
		b[i] = byte(i%251 + 1)
	}
	return b
}

// fixed answers the places that every packet begins with, and the others behind them.
func fixed(more ...api.Place) []api.Place {
	return append([]api.Place{
		{Field: api.FieldFlags, At: 0, Size: 1},
		{Field: api.FieldType, At: 1, Size: 1},
		{Field: api.FieldSeq, At: 2, Size: 2},
		{Field: api.FieldTime, At: 4, Size: 4},
		{Field: api.FieldSsrc, At: 8, Size: 4},
	}, more...)
}

// sources answers the places of so many sources.
func sources(n int) []api.Place {
	var l []api.Place
	for i := range n {
		l = append(l, api.Place{Field: api.FieldCsrc, At: 12 + 4*i, Size: 4})
	}
	return l
}

// form is a packet with its places.
type form struct {
	p api.Packet
	l []api.Place
}

// forms answers packets with their places, the edges among them.
func forms() []form {
	return []form{
		{api.Packet{}, fixed()},
		{api.Packet{Head: api.Head{Marker: true, Type: 127, Seq: 65535, Time: math.MaxUint32, Ssrc: math.MaxUint32}}, fixed()},
		{api.Packet{Payload: []byte{7}}, fixed(api.Place{Field: api.FieldPayload, At: 12, Size: 1})},
		{api.Packet{Payload: filled(1000)}, fixed(api.Place{Field: api.FieldPayload, At: 12, Size: 1000})},
		{api.Packet{Head: api.Head{Csrc: []uint32{1}}}, fixed(sources(1)...)},
		{api.Packet{Head: api.Head{Csrc: make([]uint32, 15)}}, fixed(sources(15)...)},
		{
			api.Packet{Head: api.Head{Csrc: make([]uint32, 15)}, Payload: []byte{1, 2}},
			append(fixed(sources(15)...), api.Place{Field: api.FieldPayload, At: 72, Size: 2}),
		},
		{
			api.Packet{Head: withExt},
			fixed(api.Place{Field: api.FieldProfile, At: 12, Size: 2}, api.Place{Field: api.FieldWords, At: 14, Size: 2}),
		},
		{
			api.Packet{Head: withExt, Ext: filled(4)},
			fixed(api.Place{Field: api.FieldProfile, At: 12, Size: 2}, api.Place{Field: api.FieldWords, At: 14, Size: 2}, api.Place{Field: api.FieldExt, At: 16, Size: 4}),
		},
		{
			api.Packet{Head: withExt, Profile: 9, Ext: filled(4000), Payload: []byte{1}},
			fixed(
				api.Place{Field: api.FieldProfile, At: 12, Size: 2}, api.Place{Field: api.FieldWords, At: 14, Size: 2},
				api.Place{Field: api.FieldExt, At: 16, Size: 4000}, api.Place{Field: api.FieldPayload, At: 4016, Size: 1},
			),
		},
		{
			api.Packet{Head: withExt, Payload: filled(5)},
			fixed(api.Place{Field: api.FieldProfile, At: 12, Size: 2}, api.Place{Field: api.FieldWords, At: 14, Size: 2}, api.Place{Field: api.FieldPayload, At: 16, Size: 5}),
		},
		{api.Packet{Head: withPad, Pad: 1}, fixed(api.Place{Field: api.FieldCount, At: 12, Size: 1})},
		{api.Packet{Head: withPad, Pad: 2}, fixed(api.Place{Field: api.FieldFill, At: 12, Size: 1}, api.Place{Field: api.FieldCount, At: 13, Size: 1})},
		{api.Packet{Head: withPad, Pad: 255}, fixed(api.Place{Field: api.FieldFill, At: 12, Size: 254}, api.Place{Field: api.FieldCount, At: 266, Size: 1})},
		{
			api.Packet{Head: withPad, Payload: filled(3), Pad: 1},
			fixed(api.Place{Field: api.FieldPayload, At: 12, Size: 3}, api.Place{Field: api.FieldCount, At: 15, Size: 1}),
		},
		{
			api.Packet{Head: withPad, Payload: filled(3), Pad: 255},
			fixed(api.Place{Field: api.FieldPayload, At: 12, Size: 3}, api.Place{Field: api.FieldFill, At: 15, Size: 254}, api.Place{Field: api.FieldCount, At: 269, Size: 1}),
		},
		{
			api.Packet{Head: withBoth, Pad: 2},
			fixed(
				api.Place{Field: api.FieldProfile, At: 12, Size: 2}, api.Place{Field: api.FieldWords, At: 14, Size: 2},
				api.Place{Field: api.FieldFill, At: 16, Size: 1}, api.Place{Field: api.FieldCount, At: 17, Size: 1},
			),
		},
		{
			api.Packet{Head: api.Head{HasExt: true, HasPad: true, Csrc: []uint32{5, 6}}, Profile: 7, Ext: filled(8), Payload: filled(3), Pad: 3},
			fixed(
				api.Place{Field: api.FieldCsrc, At: 12, Size: 4}, api.Place{Field: api.FieldCsrc, At: 16, Size: 4},
				api.Place{Field: api.FieldProfile, At: 20, Size: 2}, api.Place{Field: api.FieldWords, At: 22, Size: 2}, api.Place{Field: api.FieldExt, At: 24, Size: 8},
				api.Place{Field: api.FieldPayload, At: 32, Size: 3}, api.Place{Field: api.FieldFill, At: 35, Size: 2}, api.Place{Field: api.FieldCount, At: 37, Size: 1},
			),
		},
	}
}

// full answers packets of 65535 bytes in all, with their places.
func full() []form {
	return []form{
		{api.Packet{Payload: filled(65523)}, fixed(api.Place{Field: api.FieldPayload, At: 12, Size: 65523})},
		{
			api.Packet{Head: withExt, Ext: filled(65516), Payload: []byte{1, 2, 3}},
			fixed(
				api.Place{Field: api.FieldProfile, At: 12, Size: 2}, api.Place{Field: api.FieldWords, At: 14, Size: 2},
				api.Place{Field: api.FieldExt, At: 16, Size: 65516}, api.Place{Field: api.FieldPayload, At: 65532, Size: 3},
			),
		},
		{
			api.Packet{Head: withPad, Payload: filled(65268), Pad: 255},
			fixed(api.Place{Field: api.FieldPayload, At: 12, Size: 65268}, api.Place{Field: api.FieldFill, At: 65280, Size: 254}, api.Place{Field: api.FieldCount, At: 65534, Size: 1}),
		},
		{
			api.Packet{Head: withBoth, Ext: filled(65516), Pad: 3},
			fixed(
				api.Place{Field: api.FieldProfile, At: 12, Size: 2}, api.Place{Field: api.FieldWords, At: 14, Size: 2},
				api.Place{Field: api.FieldExt, At: 16, Size: 65516}, api.Place{Field: api.FieldFill, At: 65532, Size: 2}, api.Place{Field: api.FieldCount, At: 65534, Size: 1},
			),
		},
	}
}

// bytesOf answers the bytes of p, which is right.
func bytesOf(t *testing.T, p api.Packet) []byte {
	t.Helper()
	b, err := packet.Write(p, api.MaxPacket)
	if err != api.OK {
		t.Fatalf("packet.Write(%v): %d", p, err)
	}
	return b
}

// placesOf answers the places of b, which is a packet.
func placesOf(t *testing.T, b []byte) []api.Place {
	t.Helper()
	l, err := Of(b)
	if err != api.OK {
		t.Fatalf("Of(%v): %d", b, err)
	}
	return l
}

// chance answers some right packet.
func chance(r *rand.Rand) api.Packet {
	p := api.Packet{
		Head: api.Head{
			HasPad: r.Intn(2) == 0, HasExt: r.Intn(2) == 0, Marker: r.Intn(2) == 0, Type: r.Intn(128),
			Seq: uint16(r.Uint32()), Time: r.Uint32(), Ssrc: r.Uint32(),
		},
		Payload: make([]byte, r.Intn(20)),
	}
	r.Read(p.Payload)
	for range r.Intn(16) {
		p.Head.Csrc = append(p.Head.Csrc, r.Uint32())
	}
	if p.Head.HasExt {
		p.Profile = uint16(r.Uint32())
		p.Ext = make([]byte, 4*r.Intn(5))
		r.Read(p.Ext)
	}
	if p.Head.HasPad {
		p.Pad = 1 + r.Intn(10)
	}
	return p
}

// P7.1, Of

func TestPlacesOfForms(t *testing.T) {
	for _, c := range slices.Concat(forms(), full()) {
		b := bytesOf(t, c.p)
		if l, err := Of(b); err != api.OK || !slices.Equal(l, c.l) {
			t.Errorf("Of %d bytes %v = %v, %d; want %v", len(b), b[:min(len(b), 40)], l, err, c.l)
		}
	}
}

func TestTheChaptersExample(t *testing.T) {
	b := []byte{128, 96, 0, 1, 0, 0, 0, 2, 0, 0, 0, 3, 9}
	l := placesOf(t, b)
	if len(l) != 6 || l[5] != (api.Place{Field: api.FieldPayload, At: 12, Size: 1}) {
		t.Error(l)
	}
}

func TestEveryCountOfSources(t *testing.T) {
	for n := range 16 {
		p := api.Packet{Head: api.Head{Csrc: make([]uint32, n)}, Payload: []byte{1}}
		want := append(fixed(sources(n)...), api.Place{Field: api.FieldPayload, At: 12 + 4*n, Size: 1})
		if l := placesOf(t, bytesOf(t, p)); !slices.Equal(l, want) {
			t.Errorf("places with %d sources: %v", n, l)
		}
	}
}

func TestEveryPad(t *testing.T) {
	for n := 1; n <= 255; n++ {
		l := placesOf(t, bytesOf(t, api.Packet{Head: withPad, Pad: n}))
		want := fixed(api.Place{Field: api.FieldFill, At: 12, Size: n - 1}, api.Place{Field: api.FieldCount, At: 11 + n, Size: 1})
		if n == 1 {
			want = slices.Delete(want, 5, 6)
		}
		if !slices.Equal(l, want) {
			t.Errorf("places with a trailer of %d bytes: %v", n, l)
		}
	}
}

// A trailer that isn't clean, and whatever else bytes say, stands where it would if it were.
func TestPlacesHangOnSizesAlone(t *testing.T) {
	b := []byte{178, 255, 1, 2, 3, 4, 5, 6, 7, 8, 9, 10, 255, 255, 255, 255, 255, 255, 255, 255, 190, 222, 0, 1, 255, 255, 255, 255, 6, 6, 200, 201, 4, 4}
	want := fixed(
		api.Place{Field: api.FieldCsrc, At: 12, Size: 4}, api.Place{Field: api.FieldCsrc, At: 16, Size: 4},
		api.Place{Field: api.FieldProfile, At: 20, Size: 2}, api.Place{Field: api.FieldWords, At: 22, Size: 2}, api.Place{Field: api.FieldExt, At: 24, Size: 4},
		api.Place{Field: api.FieldPayload, At: 28, Size: 2}, api.Place{Field: api.FieldFill, At: 30, Size: 3}, api.Place{Field: api.FieldCount, At: 33, Size: 1},
	)
	if l := placesOf(t, b); !slices.Equal(l, want) {
		t.Errorf("Of(%v) = %v; want %v", b, l, want)
	}
}

// Without the flags, what looks like an extension or a trailer is payload.
func TestNoPlacesWithoutFlags(t *testing.T) {
	b := []byte{128, 0, 0, 0, 0, 0, 0, 0, 0, 0, 0, 0, 190, 222, 0, 1, 1, 2, 3, 4, 0, 2}
	if l := placesOf(t, b); !slices.Equal(l, fixed(api.Place{Field: api.FieldPayload, At: 12, Size: 10})) {
		t.Error(l)
	}
}

func TestBytesThatAreNoPacket(t *testing.T) {
	start := func(first byte, more ...byte) []byte {
		return append([]byte{first, 96, 0, 1, 0, 0, 0, 2, 0, 0, 0, 3}, more...)
	}
	for _, c := range []struct {
		b    []byte
		want api.Errno
	}{
		{nil, api.ErrShort},
		{[]byte{}, api.ErrShort},
		{[]byte{128}, api.ErrShort},
		{start(128)[:11], api.ErrShort},
		{make([]byte, 11), api.ErrShort},
		{make([]byte, 12), api.ErrVersion},
		{start(64), api.ErrVersion},
		{start(192, 1, 2, 3), api.ErrVersion},
		{start(129), api.ErrShort},
		{start(129, 1, 2, 3), api.ErrShort},
		{start(143, make([]byte, 59)...), api.ErrShort},
		{start(144), api.ErrShort},
		{start(144, 0, 0, 0), api.ErrShort},
		{start(144, 0, 0, 0, 1, 1, 1, 1), api.ErrShort},
		{start(176, 0, 0, 255, 255, 1, 1, 1, 1), api.ErrShort},
		{start(160), api.ErrPadding},
		{start(160, 0), api.ErrPadding},
		{start(160, 1, 3), api.ErrPadding},
		{start(176, 0, 0, 0, 1, 1, 1, 1, 1), api.ErrPadding},
		{append(start(128), make([]byte, 65524)...), api.ErrLength},
		{make([]byte, 65536), api.ErrLength},
		{make([]byte, 1<<20), api.ErrLength},
	} {
		if l, err := Of(c.b); len(l) != 0 || err != c.want {
			t.Errorf("Of %d bytes %v = %v, %d; want none, %d", len(c.b), c.b[:min(len(c.b), 20)], l, err, c.want)
		}
	}
}

func TestAnyBytesHavePlacesOrTheError(t *testing.T) {
	r := rand.New(rand.NewSource(1))
	for range 50000 {
		b := make([]byte, r.Intn(60))
		r.Read(b)
		if len(b) > 0 && r.Intn(3) != 0 {
			b[0] = 128 | b[0]&0x33
			b[len(b)-1] %= 8
		}
		l, err := Of(b)
		if _, want := packet.Read(b); err != want {
			t.Fatalf("Of(%v) = %v, %d; want %d", b, l, err, want)
		}
		if err == api.OK {
			checkCovered(t, b, l)
		} else if len(l) != 0 {
			t.Fatalf("Of(%v) = %v, %d", b, l, err)
		}
	}
}

// P7.1, Find

// checkFound holds Find against the places of each field, told one by one.
func checkFound(t *testing.T, l []api.Place) {
	t.Helper()
	for _, field := range append([]int{0, -1, 13, math.MaxInt, math.MinInt}, fields...) {
		var has []api.Place
		for _, p := range l {
			if p.Field == field {
				has = append(has, p)
			}
		}
		for nth, want := range has {
			if p, err := Find(l, field, nth); p != want || err != api.OK {
				t.Errorf("Find(%v, %d, %d) = %v, %d; want %v", l, field, nth, p, err, want)
			}
		}
		for _, nth := range []int{len(has), len(has) + 1, 1000, math.MaxInt, -1, -2, math.MinInt} {
			checkNone(t, l, field, nth)
		}
	}
}

// checkNone tells an error, if there is an nth place of the field.
func checkNone(t *testing.T, l []api.Place, field, nth int) {
	t.Helper()
	if p, err := Find(l, field, nth); p != (api.Place{}) || err != api.ErrNone {
		t.Errorf("Find(%v, %d, %d) = %v, %d; want none, %d", l, field, nth, p, err, api.ErrNone)
	}
}

func TestFindInPackets(t *testing.T) {
	for _, c := range slices.Concat(forms(), full()) {
		checkFound(t, c.l)
	}
}

func TestFindOfSources(t *testing.T) {
	l := fixed(sources(15)...)
	for _, nth := range []int{0, 7, 14} {
		if p, err := Find(l, api.FieldCsrc, nth); p != (api.Place{Field: api.FieldCsrc, At: 12 + 4*nth, Size: 4}) || err != api.OK {
			t.Errorf("Find the source %d: %v, %d", nth, p, err)
		}
	}
	for _, nth := range []int{15, 16, -1, -15, math.MaxInt, math.MinInt} {
		checkNone(t, l, api.FieldCsrc, nth)
	}
}

// odd answers lists of places that are no packet's.
func odd() [][]api.Place {
	return [][]api.Place{
		nil,
		{},
		{{}},
		{{}, {}},
		{{Field: 1}, {Field: 1}},
		{{Field: 3, At: 5, Size: 0}, {Field: 3, At: 5, Size: -1}, {Field: 3, At: 5, Size: 1}},
		{{Field: -1, At: -5, Size: 3}, {Field: 13, At: -4, Size: 10}, {Field: 0, At: 2, Size: 2}},
		{{Field: 4, At: 0, Size: 10}, {Field: 5, At: 3, Size: 2}, {Field: 4, At: 8, Size: 4}, {Field: 5, At: 0, Size: 13}},
		{{Field: 2, At: 9, Size: 1}, {Field: 1, At: 0, Size: 1}, {Field: 2, At: 9, Size: 2}},
		{{Field: 1, At: math.MinInt, Size: math.MaxInt}, {Field: 2, At: -1, Size: 1}, {Field: 3, At: 0, Size: math.MaxInt}, {Field: 4, At: math.MaxInt, Size: math.MaxInt}},
		{{Field: math.MaxInt, At: math.MinInt, Size: 1}, {Field: math.MinInt, At: math.MaxInt, Size: 1}},
		{{Field: 1, At: math.MinInt, Size: math.MinInt}, {Field: 2, At: math.MaxInt, Size: math.MinInt}, {Field: 3, At: 1, Size: math.MinInt}},
	}
}

func TestFindInOddLists(t *testing.T) {
	for _, l := range odd() {
		checkFound(t, l)
	}
	l := []api.Place{{Field: 0, At: 1, Size: -7}, {Field: -9, At: math.MinInt, Size: 2}, {Field: -9, At: 3}, {Field: 0, At: 2}}
	for _, c := range []struct {
		field, nth int
		want       api.Place
	}{{0, 0, l[0]}, {0, 1, l[3]}, {-9, 0, l[1]}, {-9, 1, l[2]}} {
		if p, err := Find(l, c.field, c.nth); p != c.want || err != api.OK {
			t.Errorf("Find(%v, %d, %d) = %v, %d; want %v", l, c.field, c.nth, p, err, c.want)
		}
	}
}

func TestEmptyListsHaveNothing(t *testing.T) {
	for _, l := range [][]api.Place{nil, {}} {
		for _, field := range fields {
			checkNone(t, l, field, 0)
		}
		for _, at := range []int{0, 1, -1, math.MaxInt, math.MinInt} {
			if x := Owner(l, at); x != -1 {
				t.Errorf("Owner(%v, %d) = %d", l, at, x)
			}
		}
	}
}

// P7.1, Owner

func TestOwnersInPackets(t *testing.T) {
	for _, c := range slices.Concat(forms(), full()) {
		size := packet.Size(c.p)
		for _, p := range c.l {
			for _, at := range []int{p.At, p.At + p.Size - 1} {
				if x := Owner(c.l, at); x != p.Field {
					t.Errorf("Owner(%v, %d) = %d; want %d", c.l, at, x, p.Field)
				}
			}
		}
		for _, at := range []int{size, size + 1, 65535, 1 << 40, math.MaxInt, -1, -2, math.MinInt} {
			if x := Owner(c.l, at); x != -1 {
				t.Errorf("Owner(%v, %d) = %d; want none", c.l, at, x)
			}
		}
	}
}

func TestEveryOwner(t *testing.T) {
	l := fixed(
		api.Place{Field: api.FieldCsrc, At: 12, Size: 4}, api.Place{Field: api.FieldProfile, At: 16, Size: 2}, api.Place{Field: api.FieldWords, At: 18, Size: 2},
		api.Place{Field: api.FieldExt, At: 20, Size: 4}, api.Place{Field: api.FieldPayload, At: 24, Size: 3}, api.Place{Field: api.FieldFill, At: 27, Size: 2}, api.Place{Field: api.FieldCount, At: 29, Size: 1},
	)
	want := []int{1, 2, 3, 3, 4, 4, 4, 4, 5, 5, 5, 5, 6, 6, 6, 6, 7, 7, 8, 8, 9, 9, 9, 9, 10, 10, 10, 11, 11, 12}
	for at, field := range want {
		if x := Owner(l, at); x != field {
			t.Errorf("Owner of byte %d is %d; want %d", at, x, field)
		}
	}
	for _, at := range []int{-1, len(want)} {
		if x := Owner(l, at); x != -1 {
			t.Errorf("Owner of byte %d is %d", at, x)
		}
	}
}

func TestOwnersInOddLists(t *testing.T) {
	lists := odd()
	for _, c := range []struct {
		list, at, want int
	}{
		{2, 0, -1},
		{5, 4, -1}, {5, 5, 3}, {5, 6, -1},
		{6, -6, -1}, {6, -5, -1}, {6, -3, -1}, {6, -2, 13}, {6, 5, 13}, {6, 3, 13}, {6, 6, -1},
		{7, 0, 4}, {7, 3, 4}, {7, 9, 4}, {7, 10, 4}, {7, 11, 4}, {7, 12, 5}, {7, 13, -1},
		{8, 0, 1}, {8, 1, -1}, {8, 9, 2}, {8, 10, 2}, {8, 11, -1},
		{9, math.MinInt, 1}, {9, -2, 1}, {9, -1, 2}, {9, 0, 3}, {9, math.MaxInt - 1, 3}, {9, math.MaxInt, 4},
		{10, math.MinInt, math.MaxInt}, {10, math.MinInt + 1, -1}, {10, 0, -1}, {10, math.MaxInt - 1, -1}, {10, math.MaxInt, math.MinInt},
		{11, math.MinInt, -1}, {11, -1, -1}, {11, 0, -1}, {11, 1, -1}, {11, math.MaxInt, -1},
	} {
		if x := Owner(lists[c.list], c.at); x != c.want {
			t.Errorf("Owner(%v, %d) = %d; want %d", lists[c.list], c.at, x, c.want)
		}
	}
}

// The first of several places has the byte, whatever their order.
func TestTheFirstOfSeveralOwners(t *testing.T) {
	narrow, wide := api.Place{Field: 7, At: 2, Size: 3}, api.Place{Field: 8, At: 0, Size: 9}
	for at, want := range []int{8, 8, 7, 7, 7, 8, 8, 8, 8, -1} {
		if x := Owner([]api.Place{narrow, wide}, at); x != want {
			t.Errorf("the narrow one first: byte %d has %d; want %d", at, x, want)
		}
		if x := Owner([]api.Place{wide, narrow}, at); at < 9 && x != 8 || at == 9 && x != -1 {
			t.Errorf("the wide one first: byte %d has %d", at, x)
		}
	}
}

// stands tells whether the byte at stands in p, by numbers that don't go round.
func stands(p api.Place, at int) bool {
	less := new(big.Int).Sub(big.NewInt(int64(at)), big.NewInt(int64(p.At)))
	return p.At <= at && less.Cmp(big.NewInt(int64(p.Size))) < 0
}

func TestOwnersInAnyLists(t *testing.T) {
	r := rand.New(rand.NewSource(2))
	ends := []int{math.MinInt, math.MinInt + 1, math.MinInt / 2, -3, -2, -1, 0, 1, 2, 3, math.MaxInt / 2, math.MaxInt/2 + 1, math.MaxInt - 1, math.MaxInt}
	some := func() int {
		if r.Intn(3) == 0 {
			return r.Intn(20) - 10
		}
		return ends[r.Intn(len(ends))]
	}
	for range 20000 {
		l := make([]api.Place, r.Intn(4))
		for i := range l {
			l[i] = api.Place{Field: some(), At: some(), Size: some()}
		}
		at, want := some(), -1
		for _, p := range slices.Backward(l) {
			if stands(p, at) {
				want = p.Field
			}
		}
		if x := Owner(l, at); x != want {
			t.Fatalf("Owner(%v, %d) = %d; want %d", l, at, x, want)
		}
	}
}

// P7.2

// checkCovered tells an error, if l doesn't cover each byte of b once, in order.
func checkCovered(t *testing.T, b []byte, l []api.Place) {
	t.Helper()
	at := 0
	for i, p := range l {
		if p.At != at || p.Size < 1 || p.Field < 1 || p.Field > 12 || i > 0 && p.Field < l[i-1].Field {
			t.Fatalf("place %d of %v is %v", i, l, p)
		}
		for range p.Size {
			if x := Owner(l, at); x != p.Field {
				t.Fatalf("Owner(%v, %d) = %d; want %d", l, at, x, p.Field)
			}
			at++
		}
	}
	if at != len(b) || Owner(l, at) != -1 {
		t.Fatalf("%v cover %d of %d bytes", l, at, len(b))
	}
}

func TestPlacesCoverAllBytes(t *testing.T) {
	for _, c := range slices.Concat(forms(), full()) {
		b := bytesOf(t, c.p)
		checkCovered(t, b, placesOf(t, b))
	}
	r := rand.New(rand.NewSource(3))
	for range 5000 {
		b := bytesOf(t, chance(r))
		checkCovered(t, b, placesOf(t, b))
	}
}

// changes answers packets that are each p, otherwise in one field, of as many bytes; with that field, and which one of its places.
func changes(r *rand.Rand, p api.Packet) []change {
	var l []change
	add := func(field, nth int, alter func(*api.Packet)) {
		q := p
		q.Head.Csrc = slices.Clone(p.Head.Csrc)
		q.Ext, q.Payload = bytes.Clone(p.Ext), bytes.Clone(p.Payload)
		alter(&q)
		l = append(l, change{q, field, nth})
	}
	add(api.FieldType, 0, func(q *api.Packet) { q.Head.Marker = !q.Head.Marker })
	add(api.FieldType, 0, func(q *api.Packet) { q.Head.Type ^= 1 + r.Intn(127) })
	add(api.FieldSeq, 0, func(q *api.Packet) { q.Head.Seq += uint16(1 + r.Intn(65535)) })
	add(api.FieldTime, 0, func(q *api.Packet) { q.Head.Time ^= 1 << r.Intn(32) })
	add(api.FieldSsrc, 0, func(q *api.Packet) { q.Head.Ssrc ^= 1 << r.Intn(32) })
	for i := range p.Head.Csrc {
		add(api.FieldCsrc, i, func(q *api.Packet) { q.Head.Csrc[i] ^= 1 << r.Intn(32) })
	}
	if p.Head.HasExt {
		add(api.FieldProfile, 0, func(q *api.Packet) { q.Profile += uint16(1 + r.Intn(65535)) })
	}
	if n := len(p.Ext); n > 0 {
		add(api.FieldExt, 0, func(q *api.Packet) { q.Ext[r.Intn(n)]++ })
		add(api.FieldExt, 0, func(q *api.Packet) { q.Ext[0]++; q.Ext[n-1]-- })
	}
	if n := len(p.Payload); n > 0 {
		add(api.FieldPayload, 0, func(q *api.Packet) { q.Payload[r.Intn(n)]++ })
		add(api.FieldPayload, 0, func(q *api.Packet) { q.Payload[0]++; q.Payload[n-1] ^= 128 })
	}
	return l
}

// change is a packet that is otherwise in the nth place of a field.
type change struct {
	p          api.Packet
	field, nth int
}

func TestOneFieldHasItsPlacesAlone(t *testing.T) {
	r := rand.New(rand.NewSource(4))
	var packets []api.Packet
	for _, c := range forms() {
		packets = append(packets, c.p)
	}
	for range 2000 {
		packets = append(packets, chance(r))
	}
	for _, p := range packets {
		b := bytesOf(t, p)
		l := placesOf(t, b)
		for _, c := range changes(r, p) {
			checkChange(t, b, bytesOf(t, c.p), l, c)
		}
	}
}

// checkChange holds the bytes that are others in x than in b against the place in which c is otherwise.
func checkChange(t *testing.T, b, x []byte, l []api.Place, c change) {
	t.Helper()
	if len(x) != len(b) || !slices.Equal(placesOf(t, x), l) {
		t.Fatalf("%v and %v have other places", b, x)
	}
	place, err := Find(l, c.field, c.nth)
	if err != api.OK {
		t.Fatalf("Find(%v, %d, %d): %d", l, c.field, c.nth, err)
	}
	if bytes.Equal(b, x) {
		t.Fatalf("%v is the same, with another field %d", b, c.field)
	}
	for at := range b {
		if b[at] == x[at] {
			continue
		}
		if at < place.At || at >= place.At+place.Size || Owner(l, at) != c.field {
			t.Fatalf("byte %d of %v is another one in %v, not in the field %d", at, b, x, c.field)
		}
	}
}

// Rule 3: what is handed in is neither changed nor kept, its spare room neither.

func TestOfLeavesTheBytesAlone(t *testing.T) {
	b := bytesOf(t, forms()[len(forms())-1].p)
	room := append(bytes.Clone(b), 9, 9, 9, 9)
	before := bytes.Clone(room)
	l := placesOf(t, room[:len(b)])
	if !bytes.Equal(room, before) {
		t.Fatalf("%v was changed to %v", before, room)
	}
	want := slices.Clone(l)
	for i := range room {
		room[i] = 77
	}
	placesOf(t, bytesOf(t, api.Packet{Payload: filled(9)}))
	if !slices.Equal(l, want) {
		t.Errorf("%v is now %v", want, l)
	}
}

func TestAskingLeavesTheListAlone(t *testing.T) {
	room := fixed(sources(15)...)
	before := slices.Clone(room)
	l := room[:8]
	for _, field := range fields {
		for nth := range 5 {
			Find(l, field, nth)
		}
	}
	for at := range 100 {
		Owner(l, at)
	}
	if !slices.Equal(room, before) {
		t.Fatalf("%v was changed to %v", before, room)
	}
	// The spare room holds no places.
	checkNone(t, l, api.FieldCsrc, 3)
	if x := Owner(l, 24); x != -1 {
		t.Errorf("Owner of a byte in the spare room: %d", x)
	}
}
