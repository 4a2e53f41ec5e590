package elem

import (
	"bytes"
	"math"
	"math/rand"
	"slices"
	"testing"

	"crossbar/api"
)

// same tells whether both are the same elements; a list is nil or empty alike.
func same(l, m []api.Elem) bool {
	return slices.EqualFunc(l, m, func(e, f api.Elem) bool {
		return e.Id == f.Id && bytes.Equal(e.Data, f.Data)
	})
}

// filled answers n bytes, no two neighbours alike, none of them 0.
func filled(n int) []byte {
	b := make([]byte, n)
	for i := range b {
		b[i] = byte(i%251 + 1)
	}
	return b
}

// chain answers the lists one behind the other.
func chain(l ...[]byte) []byte {
	return slices.Concat(l...)
}

// el answers an element.
func el(id int, data ...byte) api.Elem {
	return api.Elem{Id: id, Data: data}
}

// several answers elements with the ids from first to last, each with n bytes.
func several(first, last, n int) []api.Elem {
	var l []api.Elem
	for id := first; id <= last; id++ {
		l = append(l, api.Elem{Id: id, Data: filled(n)})
	}
	return l
}

// form is right elements, with what is written of them.
type form struct {
	l       []api.Elem
	profile uint16
	b       []byte
}

// forms answers right elements, the edges among them.
func forms() []form {
	return []form{
		{nil, 0xBEDE, nil},
		{[]api.Elem{}, 0xBEDE, nil},
		{[]api.Elem{el(1, 7, 8)}, 0xBEDE, []byte{17, 7, 8, 0}},
		{[]api.Elem{el(1, 0)}, 0xBEDE, []byte{16, 0, 0, 0}},
		{[]api.Elem{el(14, 255)}, 0xBEDE, []byte{224, 255, 0, 0}},
		{[]api.Elem{el(1, 7, 8, 9)}, 0xBEDE, []byte{18, 7, 8, 9}},
		{[]api.Elem{el(1, 7, 8, 9, 10)}, 0xBEDE, []byte{19, 7, 8, 9, 10, 0, 0, 0}},
		{[]api.Elem{{Id: 14, Data: filled(16)}}, 0xBEDE, chain([]byte{239}, filled(16), []byte{0, 0, 0})},
		{[]api.Elem{{Id: 14, Data: filled(16)}, {Id: 1, Data: filled(16)}}, 0xBEDE, chain([]byte{239}, filled(16), []byte{31}, filled(16), []byte{0, 0})},
		{[]api.Elem{el(2, 1), el(1, 2), el(14, 3)}, 0xBEDE, []byte{32, 1, 16, 2, 224, 3, 0, 0}},
		{[]api.Elem{el(3, 9), el(4, 8)}, 0xBEDE, []byte{48, 9, 64, 8}},
		{[]api.Elem{el(1)}, 0x1000, []byte{1, 0, 0, 0}},
		{[]api.Elem{{Id: 1, Data: []byte{}}}, 0x1000, []byte{1, 0, 0, 0}},
		{[]api.Elem{el(15, 1)}, 0x1000, []byte{15, 1, 1, 0}},
		{[]api.Elem{el(255, 1, 2)}, 0x1000, []byte{255, 2, 1, 2}},
		{[]api.Elem{el(15)}, 0x1000, []byte{15, 0, 0, 0}},
		{[]api.Elem{el(1), el(2)}, 0x1000, []byte{1, 0, 2, 0}},
		{[]api.Elem{{Id: 1, Data: filled(17)}}, 0x1000, chain([]byte{1, 17}, filled(17), []byte{0})},
		{[]api.Elem{{Id: 14, Data: filled(17)}}, 0x1000, chain([]byte{14, 17}, filled(17), []byte{0})},
		{[]api.Elem{{Id: 255, Data: filled(255)}}, 0x1000, chain([]byte{255, 255}, filled(255), []byte{0, 0, 0})},
		{[]api.Elem{{Id: 16, Data: filled(16)}}, 0x1000, chain([]byte{16, 16}, filled(16), []byte{0, 0})},
		// One that isn't narrow makes the form of all, wherever it stands.
		{[]api.Elem{el(15, 1), el(1, 2), el(2, 3)}, 0x1000, []byte{15, 1, 1, 1, 1, 2, 2, 1, 3, 0, 0, 0}},
		{[]api.Elem{el(1, 2), el(15, 1), el(2, 3)}, 0x1000, []byte{1, 1, 2, 15, 1, 1, 2, 1, 3, 0, 0, 0}},
		{[]api.Elem{el(1, 2), el(2, 3), el(15, 1)}, 0x1000, []byte{1, 1, 2, 2, 1, 3, 15, 1, 1, 0, 0, 0}},
		{[]api.Elem{el(1, 2), el(2), el(3, 4)}, 0x1000, []byte{1, 1, 2, 2, 0, 3, 1, 4}},
		{[]api.Elem{el(1, 0, 0), el(255, 0)}, 0x1000, []byte{1, 2, 0, 0, 255, 1, 0, 0}},
	}
}

// many answers lists of as many right elements as there may be.
func many() []form {
	narrows, wides := several(1, 14, 16), several(1, 255, 255)
	var b, c []byte
	for _, e := range narrows {
		b = append(append(b, byte(e.Id*16+15)), e.Data...)
	}
	for _, e := range wides {
		c = append(append(c, byte(e.Id), 255), e.Data...)
	}
	// 14 times 17 bytes, and 255 times 257: two and one are missing to words.
	return []form{
		{narrows, 0xBEDE, append(b, 0, 0)},
		{wides, 0x1000, append(c, 0)},
	}
}

// wrong answers elements that aren't right.
func wrong() [][]api.Elem {
	l := [][]api.Elem{
		{{Id: 1, Data: filled(256)}},
		{{Id: 1, Data: filled(257)}},
		{{Id: 255, Data: filled(1 << 16)}},
		{el(1, 7), {Id: 2, Data: filled(256)}},
		{{Id: 2, Data: filled(256)}, el(1, 7)},
		{el(1, 7), el(1, 7)},
		{el(1, 7), el(1, 8)},
		{el(1), el(1)},
		{el(14, 1), el(1, 2), el(14, 3)},
		{el(255, 1), el(255, 2)},
		{el(1, 1), el(2, 1), el(3, 1), el(2, 1), el(4, 1)},
		append(several(1, 255, 1), el(1)),
		append(several(1, 255, 1), el(255)),
		append(several(1, 255, 0), el(256)),
		make([]api.Elem, 1000),
	}
	for _, id := range []int{0, 256, 257, 271, 512, 1 << 16, 1<<32 + 1, math.MaxInt, -1, -14, -255, -256, math.MinInt, math.MinInt + 1} {
		l = append(l,
			[]api.Elem{el(id)},
			[]api.Elem{el(id, 5)},
			[]api.Elem{el(1, 5), el(id, 5)},
			[]api.Elem{el(id, 5), el(1, 5)},
			[]api.Elem{{Id: id, Data: filled(17)}, {Id: 20, Data: filled(3)}},
		)
	}
	return l
}

// chance answers some right elements.
func chance(r *rand.Rand) []api.Elem {
	ids, sizes := 255, []int{0, 1, 2, 3, 15, 16, 17, 100, 254, 255}
	if r.Intn(2) == 0 {
		ids, sizes = 14, sizes[1:6]
	}
	var l []api.Elem
	for _, i := range r.Perm(ids)[:r.Intn(min(ids, 20)+1)] {
		data := make([]byte, sizes[r.Intn(len(sizes))])
		r.Read(data)
		l = append(l, api.Elem{Id: i + 1, Data: data})
	}
	return l
}

// told answers what the chapter tells of right elements: their profile and bytes.
func told(l []api.Elem) (uint16, []byte) {
	outside := func(e api.Elem) bool {
		return e.Id > 14 || len(e.Data) == 0 || len(e.Data) > 16
	}
	profile, b := uint16(0xBEDE), []byte{}
	if slices.ContainsFunc(l, outside) {
		profile = 0x1000
	}
	for _, e := range l {
		if profile == 0x1000 {
			b = append(b, byte(e.Id), byte(len(e.Data)))
		} else {
			b = append(b, byte(16*e.Id+len(e.Data)-1))
		}
		b = append(b, e.Data...)
	}
	for len(b)%4 != 0 {
		b = append(b, 0)
	}
	return profile, b
}

// P8.1

// checkWritten holds what is told and written of f's elements against f.
func checkWritten(t *testing.T, f form) {
	t.Helper()
	if !Right(f.l) {
		t.Errorf("Right(%v) is false", f.l)
	}
	if p := Profile(f.l); p != f.profile {
		t.Errorf("Profile(%v) = %x; want %x", f.l, p, f.profile)
	}
	p, b, err := Write(f.l)
	if p != f.profile || !bytes.Equal(b, f.b) || err != api.OK {
		t.Errorf("Write(%v) = %x, %v, %d; want %x, %v", f.l, p, b, err, f.profile, f.b)
	}
}

func TestRightElementsAreWritten(t *testing.T) {
	for _, f := range slices.Concat(forms(), many()) {
		checkWritten(t, f)
	}
	r := rand.New(rand.NewSource(1))
	for range 3000 {
		l := chance(r)
		p, b := told(l)
		checkWritten(t, form{l, p, b})
		if t.Failed() {
			return
		}
	}
}

func TestWrongElementsAreRefused(t *testing.T) {
	for _, l := range wrong() {
		if Right(l) {
			t.Errorf("Right(%v)", l)
		}
		if p := Profile(l); p != 0 {
			t.Errorf("Profile(%v) = %x", l, p)
		}
		p, b, err := Write(l)
		if p != 0 || len(b) != 0 || err != api.ErrArg {
			t.Errorf("Write(%v) = %x, %v, %d", l, p, b, err)
		}
	}
}

func TestEveryIdAndSize(t *testing.T) {
	for id := -3; id <= 300; id++ {
		for n := range 300 {
			l := []api.Elem{{Id: id, Data: make([]byte, n)}}
			right := id >= 1 && id <= 255 && n <= 255
			want := uint16(0)
			if right {
				want = 0x1000
			}
			if right && id <= 14 && n >= 1 && n <= 16 {
				want = 0xBEDE
			}
			if Right(l) != right || Profile(l) != want {
				t.Fatalf("Id %d with %d bytes: %t, %x; want %t, %x", id, n, Right(l), Profile(l), right, want)
			}
		}
	}
}

// P8.2

// reading is data, with what is read of it.
type reading struct {
	profile uint16
	data    []byte
	l       []api.Elem
	at      []int
	err     api.Errno
}

// checkReading holds what is read of x's data against x.
func checkReading(t *testing.T, x reading) {
	t.Helper()
	l, err := Read(x.profile, x.data)
	if err != x.err || !same(l, x.l) {
		t.Errorf("Read(%x, %v) = %v, %d; want %v, %d", x.profile, x.data, l, err, x.l, x.err)
	}
	var want []api.Spot
	for i, e := range x.l {
		want = append(want, api.Spot{Id: e.Id, At: x.at[i], Size: len(e.Data)})
	}
	s, err := Spots(x.profile, x.data)
	if err != x.err || !slices.Equal(s, want) {
		t.Errorf("Spots(%x, %v) = %v, %d; want %v, %d", x.profile, x.data, s, err, want, x.err)
	}
}

func TestNarrowElementsAreRead(t *testing.T) {
	two := []api.Elem{el(1, 7), el(2, 8, 9)}
	for _, x := range []reading{
		{data: nil},
		{data: []byte{}},
		{data: []byte{0}},
		{data: make([]byte, 12)},
		{data: []byte{17, 7, 8, 0}, l: []api.Elem{el(1, 7, 8)}, at: []int{1}},
		{data: []byte{16, 7}, l: []api.Elem{el(1, 7)}, at: []int{1}},
		{data: []byte{16, 7, 33, 8, 9}, l: two, at: []int{1, 3}},
		{data: []byte{0, 16, 7, 33, 8, 9}, l: two, at: []int{2, 4}},
		{data: []byte{0, 0, 0, 0, 16, 7, 33, 8, 9}, l: two, at: []int{5, 7}},
		{data: []byte{16, 7, 0, 0, 0, 33, 8, 9, 0}, l: two, at: []int{1, 6}},
		{data: []byte{16, 7, 33, 8, 9, 0, 0, 0, 0, 0, 0}, l: two, at: []int{1, 3}},
		{data: []byte{33, 0, 0, 16, 0}, l: []api.Elem{el(2, 0, 0), el(1, 0)}, at: []int{1, 4}},
		{data: []byte{16, 32, 32, 16}, l: []api.Elem{el(1, 32), el(2, 16)}, at: []int{1, 3}},
		{data: chain([]byte{239}, filled(16)), l: []api.Elem{{Id: 14, Data: filled(16)}}, at: []int{1}},
		{data: []byte{16, 255, 32, 1}, l: []api.Elem{el(1, 255), el(2, 1)}, at: []int{1, 3}},
		{data: many()[0].b, l: many()[0].l, at: []int{1, 18, 35, 52, 69, 86, 103, 120, 137, 154, 171, 188, 205, 222}},
	} {
		x.profile = api.OneByte
		checkReading(t, x)
	}
}

// Where narrow elements end, what is behind counts no more, whichever faults it has.
func TestNarrowElementsEnd(t *testing.T) {
	one := []api.Elem{el(1, 7)}
	ends := []byte{1, 2, 14, 15, 240, 241, 254, 255}
	for _, end := range ends {
		for _, rest := range [][]byte{nil, {0}, {32, 8}, {16, 8}, {47}, {47, 1, 2}, {end, end}, filled(300)} {
			checkReading(t, reading{profile: api.OneByte, data: chain([]byte{16, 7, end}, rest), l: one, at: []int{1}})
			checkReading(t, reading{profile: api.OneByte, data: chain([]byte{0, 16, 7, 0, 0, end}, rest), l: one, at: []int{2}})
			checkReading(t, reading{profile: api.OneByte, data: chain([]byte{end}, rest)})
			checkReading(t, reading{profile: api.OneByte, data: chain([]byte{16, 7, 32, 8, 16, 9, end}, rest), err: api.ErrField})
		}
		// Within Data they end nothing.
		checkReading(t, reading{profile: api.OneByte, data: []byte{17, end, end}, l: []api.Elem{el(1, end, end)}, at: []int{1}})
	}
	for first := range 256 {
		x := reading{profile: api.OneByte, data: chain([]byte{byte(first)}, make([]byte, 20))}
		if id, n := first/16, first%16+1; id >= 1 && id <= 14 {
			x.l, x.at = []api.Elem{{Id: id, Data: make([]byte, n)}}, []int{1}
		}
		checkReading(t, x)
	}
}

func TestWideElementsAreRead(t *testing.T) {
	two := []api.Elem{el(255), el(1, 7, 8)}
	for _, x := range []reading{
		{data: nil},
		{data: []byte{}},
		{data: []byte{0}},
		{data: make([]byte, 13)},
		{data: []byte{1, 0}, l: []api.Elem{el(1)}, at: []int{2}},
		{data: []byte{255, 0, 1, 2, 7, 8}, l: two, at: []int{2, 4}},
		{data: []byte{0, 255, 0, 1, 2, 7, 8}, l: two, at: []int{3, 5}},
		{data: []byte{255, 0, 0, 0, 1, 2, 7, 8}, l: two, at: []int{2, 6}},
		{data: []byte{255, 0, 1, 2, 7, 8, 0, 0, 0, 0, 0}, l: two, at: []int{2, 4}},
		{data: []byte{1, 2, 0, 0, 2, 1, 0}, l: []api.Elem{el(1, 0, 0), el(2, 0)}, at: []int{2, 6}},
		{data: []byte{15, 1, 1, 240, 1, 2}, l: []api.Elem{el(15, 1), el(240, 2)}, at: []int{2, 5}},
		{data: []byte{1, 1, 2, 2, 1, 1}, l: []api.Elem{el(1, 2), el(2, 1)}, at: []int{2, 5}},
		{data: chain([]byte{9, 255}, filled(255)), l: []api.Elem{{Id: 9, Data: filled(255)}}, at: []int{2}},
		{data: chain([]byte{9, 16}, filled(16)), l: []api.Elem{{Id: 9, Data: filled(16)}}, at: []int{2}},
	} {
		for p := uint16(0x1000); p <= 0x100F; p++ {
			x.profile = p
			checkReading(t, x)
		}
	}
	all := reading{profile: api.TwoByte, data: many()[1].b, l: many()[1].l}
	for i := range 255 {
		all.at = append(all.at, 257*i+2)
	}
	checkReading(t, all)
}

func TestEveryProfile(t *testing.T) {
	for p := range 1 << 16 {
		narrow, wide := p == 0xBEDE, p >= 0x1000 && p <= 0x100F
		for _, data := range [][]byte{nil, {0, 0, 0, 0}, {16, 0, 0, 0}, {1}, {255, 255}, {1, 0, 1, 0}} {
			_, err := Read(uint16(p), data)
			_, also := Spots(uint16(p), data)
			if err != also {
				t.Fatalf("profile %x: %d and %d", p, err, also)
			}
			if narrow || wide {
				continue
			}
			checkReading(t, reading{profile: uint16(p), data: data, err: api.ErrField})
			if Canon(uint16(p), data) {
				t.Fatalf("Canon(%x, %v)", p, data)
			}
		}
		if _, err := Read(uint16(p), []byte{0}); (err == api.OK) != (narrow || wide) {
			t.Fatalf("profile %x: %d", p, err)
		}
	}
}

func TestFaultsOfNarrowElements(t *testing.T) {
	for _, x := range []struct {
		data []byte
		err  api.Errno
	}{
		{[]byte{16}, api.ErrLength},
		{[]byte{17, 7}, api.ErrLength},
		{[]byte{0, 0, 0, 16}, api.ErrLength},
		{[]byte{16, 7, 33, 8}, api.ErrLength},
		{[]byte{16, 7, 0, 32}, api.ErrLength},
		{[]byte{16, 7, 16, 8}, api.ErrField},
		{[]byte{16, 7, 0, 0, 17, 8, 9, 0}, api.ErrField},
		{[]byte{16, 7, 32, 8, 48, 9, 32, 1}, api.ErrField},
		{[]byte{224, 7, 224, 7}, api.ErrField},
		// Of one element the missing bytes are told first.
		{[]byte{16, 7, 17, 8}, api.ErrLength},
		{[]byte{16, 7, 16}, api.ErrLength},
		// Of several the first one's fault is.
		{[]byte{16, 7, 16, 8, 33, 9}, api.ErrField},
		{[]byte{16, 7, 16, 8, 31}, api.ErrField},
		{[]byte{16, 7, 31, 8, 16, 9}, api.ErrLength},
	} {
		checkReading(t, reading{profile: api.OneByte, data: x.data, err: x.err})
	}
	for n := 1; n <= 16; n++ {
		data := chain([]byte{byte(47 + n)}, filled(n))
		checkReading(t, reading{profile: api.OneByte, data: data, l: []api.Elem{{Id: 3, Data: filled(n)}}, at: []int{1}})
		for less := 1; less <= n; less++ {
			checkReading(t, reading{profile: api.OneByte, data: data[:n+1-less], err: api.ErrLength})
		}
	}
}

func TestFaultsOfWideElements(t *testing.T) {
	for _, x := range []struct {
		data []byte
		err  api.Errno
	}{
		{[]byte{1}, api.ErrLength},
		{[]byte{255}, api.ErrLength},
		{[]byte{0, 0, 0, 1}, api.ErrLength},
		{[]byte{1, 1}, api.ErrLength},
		{[]byte{1, 2, 7}, api.ErrLength},
		{[]byte{1, 0, 2}, api.ErrLength},
		{[]byte{1, 0, 2, 1}, api.ErrLength},
		{[]byte{1, 0, 1, 0}, api.ErrField},
		{[]byte{255, 1, 7, 0, 255, 0}, api.ErrField},
		{[]byte{1, 0, 2, 0, 3, 0, 2, 0}, api.ErrField},
		// Of one element the missing bytes are told first, even where only its first byte is there.
		{[]byte{1, 0, 1}, api.ErrLength},
		{[]byte{1, 0, 1, 1}, api.ErrLength},
		{[]byte{1, 0, 1, 2, 9}, api.ErrLength},
		// Of several the first one's fault is.
		{[]byte{1, 0, 1, 0, 2}, api.ErrField},
		{[]byte{1, 0, 1, 0, 2, 9, 9}, api.ErrField},
		{[]byte{1, 0, 2, 5, 1, 0, 1, 0}, api.ErrLength},
	} {
		for _, p := range []uint16{0x1000, 0x1007, 0x100F} {
			checkReading(t, reading{profile: p, data: x.data, err: x.err})
		}
	}
	for n := range 256 {
		data := chain([]byte{3, byte(n)}, filled(n))
		checkReading(t, reading{profile: api.TwoByte, data: data, l: []api.Elem{{Id: 3, Data: filled(n)}}, at: []int{2}})
		checkReading(t, reading{profile: api.TwoByte, data: data[:n+1], err: api.ErrLength})
		checkReading(t, reading{profile: api.TwoByte, data: data[:1], err: api.ErrLength})
	}
}

// heard answers what the chapter says that is read of data from at on, behind the elements l: it goes on by calling itself.
func heard(profile uint16, data []byte, at int, x reading) reading {
	left := data[at:]
	if len(left) == 0 {
		return x
	}
	first, ahead, n := int(left[0]), 1, 0
	id := first
	switch {
	case first == 0:
		return heard(profile, data, at+1, x)
	case profile == api.OneByte && (first < 16 || first >= 240):
		return x
	case profile == api.OneByte:
		id, n = first/16, first%16+1
	case len(left) < 2:
		return reading{profile: profile, data: data, err: api.ErrLength}
	default:
		ahead, n = 2, int(left[1])
	}
	if len(left) < ahead+n {
		return reading{profile: profile, data: data, err: api.ErrLength}
	}
	if slices.ContainsFunc(x.l, func(e api.Elem) bool { return e.Id == id }) {
		return reading{profile: profile, data: data, err: api.ErrField}
	}
	x.l = append(x.l, api.Elem{Id: id, Data: left[ahead : ahead+n]})
	x.at = append(x.at, at+ahead)
	return heard(profile, data, at+ahead+n, x)
}

// letters are bytes of which data are made that have elements, ends and faults in plenty.
var letters = []byte{0, 1, 2, 3, 15, 16, 17, 18, 32, 33, 239, 240}

// eachData goes through b, and through all data that have these letters behind it, up to n bytes in all.
func eachData(n int, b []byte, do func([]byte)) {
	do(b)
	if len(b) == n {
		return
	}
	for _, x := range letters {
		eachData(n, append(slices.Clone(b), x), do)
	}
}

func TestAllShortDataAreRead(t *testing.T) {
	eachData(4, nil, func(data []byte) {
		for _, p := range []uint16{0xBEDE, 0x1000, 0x100F} {
			if !t.Failed() {
				checkReading(t, heard(p, data, 0, reading{profile: p, data: data}))
			}
		}
	})
}

func TestAnyDataAreRead(t *testing.T) {
	r := rand.New(rand.NewSource(2))
	for range 50000 {
		data := make([]byte, r.Intn(30))
		for i := range data {
			data[i] = letters[r.Intn(len(letters))]
			if r.Intn(4) == 0 {
				data[i] = byte(r.Intn(256))
			}
		}
		for _, p := range []uint16{0xBEDE, 0x1000, 0x1001} {
			checkReading(t, heard(p, data, 0, reading{profile: p, data: data}))
		}
		if t.Failed() {
			return
		}
	}
}

// P8.3

func TestWhatIsWrittenIsCanonical(t *testing.T) {
	for _, f := range slices.Concat(forms(), many()) {
		if !Canon(f.profile, f.b) {
			t.Errorf("Canon(%x, %v) is false", f.profile, f.b)
		}
		for low := uint16(1); low <= 15; low++ {
			if Canon(0x1000+low, f.b) {
				t.Errorf("Canon(%x, %v)", 0x1000+low, f.b)
			}
		}
		// What is written of one form may be of the other one as well, where elements of that form are written so.
		other := uint16(0xBEDE ^ 0x1000 ^ f.profile)
		heardOf := heard(other, f.b, 0, reading{})
		p, b := told(heardOf.l)
		if is, want := Canon(other, f.b), heardOf.err == api.OK && p == other && bytes.Equal(b, f.b); is != want {
			t.Errorf("Canon(%x, %v) is %t", other, f.b, is)
		}
		for _, data := range [][]byte{append(slices.Clone(f.b), 0), append(slices.Clone(f.b), 0, 0, 0, 0), append([]byte{0, 0, 0, 0}, f.b...)} {
			if Canon(f.profile, data) {
				t.Errorf("Canon(%x, %v)", f.profile, data)
			}
		}
	}
}

func TestWhatIsNotWrittenIsNotCanonical(t *testing.T) {
	for _, x := range []struct {
		profile uint16
		data    []byte
	}{
		{0xBEDE, []byte{0, 0, 0, 0}},
		{0xBEDE, []byte{16, 7}},
		{0xBEDE, []byte{16, 7, 0}},
		{0xBEDE, []byte{0, 0, 16, 7}},
		{0xBEDE, []byte{0, 17, 7, 8}},
		{0xBEDE, []byte{16, 7, 0, 32, 8, 0, 0, 0}},
		{0xBEDE, []byte{16, 7, 240, 0}},
		{0xBEDE, []byte{16, 7, 0, 1}},
		{0xBEDE, []byte{16, 7, 1, 0}},
		{0xBEDE, []byte{240, 0, 0, 0}},
		{0xBEDE, []byte{255, 255, 255, 255}},
		{0xBEDE, []byte{16, 7, 16, 7}},
		{0xBEDE, []byte{19, 7, 8, 9}},
		{0x1000, nil},
		{0x1000, []byte{0, 0, 0, 0}},
		{0x1000, []byte{1, 1, 7, 0}},
		{0x1000, []byte{14, 2, 7, 8}},
		{0x1000, chain([]byte{14, 16}, filled(16), []byte{0, 0})},
		{0x1000, []byte{0, 0, 1, 0}},
		{0x1000, []byte{1, 0, 0, 2, 0, 0, 0, 0}},
		{0x1000, []byte{15, 1, 7}},
		{0x1000, []byte{1, 0}},
		{0x1000, []byte{1, 0, 1, 0}},
		{0x1000, []byte{15, 3, 7, 8}},
		{0x1001, []byte{15, 1, 7, 0}},
		{0x100F, []byte{15, 1, 7, 0}},
		{0x100F, nil},
		{0x0FFF, nil},
		{0x0FFF, []byte{15, 1, 7, 0}},
		{0x1010, nil},
		{0x1010, []byte{15, 1, 7, 0}},
		{0xBEDF, nil},
		{0xBEDD, []byte{17, 7, 8, 0}},
		{0, nil},
	} {
		if Canon(x.profile, x.data) {
			t.Errorf("Canon(%x, %v)", x.profile, x.data)
		}
	}
}

// ink is what is written of elements.
type ink struct {
	profile uint16
	data    string
}

// written answers all that is written of elements in at most four bytes, these letters alone.
func written() map[ink]bool {
	var elems []api.Elem
	for _, id := range letters {
		for _, high := range []int{int(id), int(id) / 16} {
			eachData(3, nil, func(data []byte) { elems = append(elems, el(high, data...)) })
		}
	}
	all := map[ink]bool{}
	put := func(l ...api.Elem) {
		if p, b, err := Write(l); err == api.OK && len(b) <= 4 {
			all[ink{p, string(b)}] = true
		}
	}
	put()
	var short []api.Elem
	for _, e := range elems {
		put(e)
		if len(e.Data) <= 1 {
			short = append(short, e)
		}
	}
	for _, e := range short {
		for _, f := range short {
			put(e, f)
		}
	}
	return all
}

func TestAllShortDataThatAreCanonical(t *testing.T) {
	all := written()
	eachData(4, nil, func(data []byte) {
		for _, p := range []uint16{0xBEDE, 0x1000, 0x1001} {
			if is, want := Canon(p, data), all[ink{p, string(data)}]; is != want {
				t.Fatalf("Canon(%x, %v) is %t", p, data, is)
			}
		}
	})
}

// P8.4

func TestThereAndBack(t *testing.T) {
	r := rand.New(rand.NewSource(3))
	lists := [][]api.Elem{}
	for _, f := range slices.Concat(forms(), many()) {
		lists = append(lists, f.l)
	}
	for range 3000 {
		lists = append(lists, chance(r))
	}
	for _, l := range lists {
		p, b, _ := Write(l)
		m, err := Read(p, b)
		if err != api.OK || !same(l, m) {
			t.Fatalf("%v was read as %v, %d", l, m, err)
		}
		if len(b)%4 != 0 || !Canon(p, b) {
			t.Fatalf("%v was written as %x, %v", l, p, b)
		}
	}
}

func TestWhatIsReadIsRight(t *testing.T) {
	r := rand.New(rand.NewSource(4))
	for range 50000 {
		data := make([]byte, 4*r.Intn(6))
		for i := range data {
			data[i] = letters[r.Intn(len(letters))]
		}
		for _, p := range []uint16{0xBEDE, 0x1000, 0x1009} {
			l, err := Read(p, data)
			if err != api.OK {
				continue
			}
			q, b, err := Write(l)
			if !Right(l) || err != api.OK {
				t.Fatalf("%v were read of %x, %v", l, p, data)
			}
			if Canon(p, data) != (q == p && bytes.Equal(b, data)) {
				t.Fatalf("Canon(%x, %v) is %t; %x, %v are written of what is read", p, data, Canon(p, data), q, b)
			}
		}
	}
}

// Rule 3: what is handed in is neither changed nor kept, its spare room neither.

func TestElementsAreLeftAlone(t *testing.T) {
	room := filled(40)
	l := []api.Elem{{Id: 1, Data: room[:3]}, {Id: 2, Data: room[5:9]}, {Id: 3}}
	spare := l[:2]
	for _, l := range [][]api.Elem{spare, l} {
		_, b, _ := Write(l)
		Profile(l)
		for i := range b {
			b[i] = 77
		}
	}
	if !bytes.Equal(room, filled(40)) || l[2].Id != 3 || len(l[2].Data) != 0 || l[0].Id != 1 || l[1].Id != 2 {
		t.Errorf("%v of %v", l, room)
	}
}

func TestDataAreLeftAlone(t *testing.T) {
	for p, data := range map[uint16][]byte{0xBEDE: {17, 7, 8, 0, 34, 1, 2, 3, 16}, 0x1000: {1, 2, 7, 8, 2, 0, 3, 1, 9, 4}} {
		room, before := data, slices.Clone(data)
		data = room[:len(room)-1]
		l, err := Read(p, data)
		Spots(p, data)
		Canon(p, data)
		if err != api.OK || !bytes.Equal(room, before) {
			t.Fatalf("%v was changed to %v, %d", before, room, err)
		}
		want := heard(p, before[:len(data)], 0, reading{}).l
		for i := range room {
			room[i] = 99
		}
		if !same(l, want) {
			t.Errorf("%v is now %v", want, l)
		}
		// Nor do the elements share room among one another.
		for i := range l {
			_ = append(l[i].Data, 55, 55, 55, 55)
		}
		if !same(l, want) {
			t.Errorf("%v is now %v", want, l)
		}
	}
}
