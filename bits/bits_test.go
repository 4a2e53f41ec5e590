package bits

import (
	"bytes"
	"math"
	"math/rand"
	"strings"
	"testing"

	"crossbar/api"
)

// told answers b's bits as a text of 0 and 1.
func told(b []byte) string {
	var s strings.Builder
	for _, x := range b {
		for i := 7; i >= 0; i-- {
			s.WriteByte('0' + x>>i&1)
		}
	}
	return s.String()
}

// inked answers an ink of the bits that a text of 0 and 1 tells.
func inked(s string) api.Ink {
	k := api.Ink{Bytes: make([]byte, (len(s)+7)/8), Many: len(s)}
	for i := range s {
		if s[i] == '1' {
			k.Bytes[i/8] |= 0x80 >> (i % 8)
		}
	}
	return k
}

// digitsOf answers v as n digits to the base 2.
func digitsOf(v uint64, n int) string {
	s := ""
	for range n {
		s = string(rune('0'+v%2)) + s
		v /= 2
	}
	return s
}

// sameReader tells whether both are the same reader.
func sameReader(c, d api.Bits) bool {
	return bytes.Equal(c.Bytes, d.Bytes) && c.At == d.At && c.Err == d.Err
}

// sameInk tells whether both are the same ink.
func sameInk(k, l api.Ink) bool {
	return bytes.Equal(k.Bytes, l.Bytes) && k.Many == l.Many
}

// two are sixteen bits: 1010010111000011.
var two = []byte{0xa5, 0xc3}

// wrongReaders aren't right, though none has an error yet.
var wrongReaders = []api.Bits{
	{At: -1},
	{At: 1},
	{At: math.MinInt},
	{At: math.MaxInt},
	{Bytes: two, At: -1},
	{Bytes: two, At: -8},
	{Bytes: two, At: 17},
	{Bytes: two, At: 24},
	{Bytes: two, At: math.MinInt},
	{Bytes: two, At: math.MaxInt},
	{Bytes: []byte{1, 2, 3}[:2], At: 17},
}

// wrongSizes are how many bits no number has.
var wrongSizes = []int{-1, -64, 65, 128, math.MinInt, math.MaxInt}

// wrongRanges are how many numbers no range has.
var wrongRanges = []uint64{0, 1<<32 + 1, 1 << 33, 1 << 63, math.MaxUint64}

// wrongInks aren't right.
var wrongInks = []api.Ink{
	{Many: -1},
	{Many: -7},
	{Many: -8},
	{Many: math.MinInt},
	{Many: math.MaxInt},
	{Many: math.MaxInt - 7},
	{Many: 1},
	{Many: 8},
	{Bytes: []byte{0}},
	{Bytes: []byte{0}, Many: -1},
	{Bytes: []byte{0}, Many: -8},
	{Bytes: []byte{0}, Many: 9},
	{Bytes: []byte{0, 0}, Many: 8},
	{Bytes: []byte{0, 0}, Many: 17},
	{Bytes: []byte{0, 0, 0}, Many: 16},
	{Bytes: []byte{0x40}, Many: 1},
	{Bytes: []byte{0x01}, Many: 1},
	{Bytes: []byte{0x01}, Many: 7},
	{Bytes: []byte{0xff}, Many: 7},
	{Bytes: []byte{0xff, 0xc0}, Many: 9},
	{Bytes: []byte{0xff, 0x01}, Many: 15},
}

// P2.1

func TestStart(t *testing.T) {
	for _, b := range [][]byte{nil, {}, {7}, two} {
		if c := Start(b); !sameReader(c, api.Bits{Bytes: b}) {
			t.Errorf("Start(%v) = %v", b, c)
		}
	}
}

func TestLeft(t *testing.T) {
	for at := 0; at <= 16; at++ {
		if n := Left(api.Bits{Bytes: two, At: at}); n != 16-at {
			t.Errorf("at %d: %d", at, n)
		}
	}
	if n := Left(Start(nil)); n != 0 {
		t.Error(n)
	}
	for _, c := range wrongReaders {
		if n := Left(c); n != 0 {
			t.Errorf("Left(%v) = %d", c, n)
		}
	}
	for _, err := range []api.Errno{api.ErrArg, api.ErrPlan, -1, 77} {
		if n := Left(api.Bits{Bytes: two, Err: err}); n != 0 {
			t.Errorf("error %d: %d", err, n)
		}
	}
}

func TestGetReadsHighestBitFirst(t *testing.T) {
	for _, c := range []struct {
		b     []byte
		at, n int
		want  uint64
	}{
		{two, 0, 1, 1},
		{two, 1, 1, 0},
		{two, 0, 8, 0xa5},
		{two, 0, 16, 0xa5c3},
		{two, 4, 8, 0x5c},
		{two, 7, 2, 3},
		{two, 15, 1, 1},
		{two, 3, 5, 5},
		{two, 0, 0, 0},
		{two, 16, 0, 0},
		{nil, 0, 0, 0},
		{bytes.Repeat([]byte{0xff}, 8), 0, 64, math.MaxUint64},
		{bytes.Repeat([]byte{0xff}, 8), 0, 63, math.MaxUint64 >> 1},
		{make([]byte, 8), 0, 64, 0},
		{[]byte{1, 2, 3, 4, 5, 6, 7, 8, 9}, 8, 64, 0x0203040506070809},
		{[]byte{1, 2, 3, 4, 5, 6, 7, 8, 9}, 4, 64, 0x1020304050607080},
	} {
		d, v := Get(api.Bits{Bytes: c.b, At: c.at}, c.n)
		if v != c.want || !sameReader(d, api.Bits{Bytes: c.b, At: c.at + c.n}) {
			t.Errorf("Get(%v at %d, %d) = %v, %#x; want %#x", c.b, c.at, c.n, d, v, c.want)
		}
	}
}

func TestGetAtEveryPlace(t *testing.T) {
	b := make([]byte, 17)
	rand.New(rand.NewSource(1)).Read(b)
	s := told(b)
	for at := 0; at <= len(s); at++ {
		for n := 0; n <= 64; n++ {
			c := api.Bits{Bytes: b, At: at}
			d, v := Get(c, n)
			if at+n > len(s) {
				if c.Err = api.ErrShort; v != 0 || !sameReader(d, c) {
					t.Fatalf("Get(at %d, %d) = %v, %d", at, n, d, v)
				}
				continue
			}
			if c.At += n; digitsOf(v, 64) != strings.Repeat("0", 64-n)+s[at:at+n] || !sameReader(d, c) {
				t.Fatalf("Get(at %d, %d) = %v, %d", at, n, d, v)
			}
		}
	}
}

func TestGetRefuses(t *testing.T) {
	for _, c := range wrongReaders {
		for _, n := range []int{0, 1, 64, -1, 65} {
			want := c
			want.Err = api.ErrArg
			if d, v := Get(c, n); v != 0 || !sameReader(d, want) {
				t.Errorf("Get(%v, %d) = %v, %d", c, n, d, v)
			}
		}
	}
	for _, n := range wrongSizes {
		for _, b := range [][]byte{nil, two, make([]byte, 40)} {
			if d, v := Get(Start(b), n); v != 0 || !sameReader(d, api.Bits{Bytes: b, Err: api.ErrArg}) {
				t.Errorf("Get(%v, %d) = %v, %d", b, n, d, v)
			}
		}
	}
	if d, v := Get(Start(nil), 1); v != 0 || !sameReader(d, api.Bits{Err: api.ErrShort}) {
		t.Error(d, v)
	}
}

// An error that a reader has stays, whatever else is wrong.
func TestReadersKeepTheirError(t *testing.T) {
	for _, err := range []api.Errno{api.ErrArg, api.ErrShort, api.ErrField, api.ErrPlan, -1, 77} {
		for _, c := range append([]api.Bits{Start(two), Start(nil), {Bytes: two, At: 5}}, wrongReaders...) {
			c.Err = err
			for _, n := range []int{0, 1, 5, 64, 65, -1} {
				if d, v := Get(c, n); v != 0 || !sameReader(d, c) {
					t.Errorf("Get(%v, %d) = %v, %d", c, n, d, v)
				}
			}
			for _, n := range []uint64{0, 1, 5, 1 << 32, 1<<32 + 1} {
				if d, v := Range(c, n); v != 0 || !sameReader(d, c) {
					t.Errorf("Range(%v, %d) = %v, %d", c, n, d, v)
				}
			}
		}
	}
}

func TestSpareRoomIsNoBits(t *testing.T) {
	b := []byte{1, 0xff, 0xff}[:1]
	if d, v := Get(Start(b), 9); v != 0 || d.Err != api.ErrShort {
		t.Error(d, v)
	}
	if d, v := Range(Start(b), 1<<9); v != 0 || d.Err != api.ErrShort {
		t.Error(d, v)
	}
	if Right(api.Ink{Bytes: b, Many: 16}) || !Right(api.Ink{Bytes: b, Many: 8}) {
		t.Error("spare room counts")
	}
}

// P2.2

// ranges are of n numbers; bits has a number's bits for each v.
var ranges = []struct {
	v, n uint64
	bits string
}{
	{0, 1, ""},
	{0, 2, "0"},
	{1, 2, "1"},
	{0, 3, "0"},
	{1, 3, "10"},
	{2, 3, "11"},
	{0, 4, "00"},
	{3, 4, "11"},
	{0, 5, "00"},
	{1, 5, "01"},
	{2, 5, "10"},
	{3, 5, "110"},
	{4, 5, "111"},
	{1, 6, "01"},
	{2, 6, "100"},
	{5, 6, "111"},
	{0, 7, "00"},
	{1, 7, "010"},
	{6, 7, "111"},
	{7, 8, "111"},
	{254, 255, "11111111"},
	{0, 255, "0000000"},
	{1, 255, "00000010"},
	{255, 256, "11111111"},
	{254, 257, "11111110"},
	{255, 257, "111111110"},
	{0, 1<<32 - 1, "0" + strings.Repeat("0", 30)},
	{1, 1<<32 - 1, strings.Repeat("0", 30) + "10"},
	{1<<32 - 2, 1<<32 - 1, strings.Repeat("1", 32)},
	{0, 1 << 32, strings.Repeat("0", 32)},
	{1, 1 << 32, strings.Repeat("0", 31) + "1"},
	{1 << 31, 1 << 32, "1" + strings.Repeat("0", 31)},
	{1<<32 - 1, 1 << 32, strings.Repeat("1", 32)},
}

func TestRange(t *testing.T) {
	for _, c := range ranges {
		for ahead := range 9 {
			b := inked(strings.Repeat("1", ahead) + c.bits + strings.Repeat("1", 9)).Bytes
			d, v := Range(api.Bits{Bytes: b, At: ahead}, c.n)
			if v != c.v || !sameReader(d, api.Bits{Bytes: b, At: ahead + len(c.bits)}) {
				t.Errorf("Range(%s behind %d, %d) = %v, %d; want %d", c.bits, ahead, c.n, d, v, c.v)
			}
		}
	}
}

// A reader of whose bits the last ones are missing stays where it is.
func TestRangeOfMissingBits(t *testing.T) {
	for _, c := range ranges {
		for there := range len(c.bits) {
			at := (8 - there%8) % 8
			b := inked(strings.Repeat("0", at) + c.bits[:there]).Bytes
			d, v := Range(api.Bits{Bytes: b, At: at}, c.n)
			if v != 0 || !sameReader(d, api.Bits{Bytes: b, At: at, Err: api.ErrShort}) {
				t.Errorf("Range(%d of %s, %d) = %v, %d; want ErrShort", there, c.bits, c.n, d, v)
			}
		}
		at := (8 - len(c.bits)%8) % 8
		b := inked(strings.Repeat("0", at) + c.bits).Bytes
		d, v := Range(api.Bits{Bytes: b, At: at}, c.n)
		if v != c.v || !sameReader(d, api.Bits{Bytes: b, At: 8 * len(b)}) {
			t.Errorf("Range(%s, %d) = %v, %d; want %d", c.bits, c.n, d, v, c.v)
		}
	}
}

func TestRangeRefuses(t *testing.T) {
	for _, c := range wrongReaders {
		for _, n := range []uint64{0, 1, 5, 1 << 32, 1<<32 + 1} {
			want := c
			want.Err = api.ErrArg
			if d, v := Range(c, n); v != 0 || !sameReader(d, want) {
				t.Errorf("Range(%v, %d) = %v, %d", c, n, d, v)
			}
		}
	}
	for _, n := range wrongRanges {
		for _, b := range [][]byte{nil, two, make([]byte, 40)} {
			if d, v := Range(Start(b), n); v != 0 || !sameReader(d, api.Bits{Bytes: b, Err: api.ErrArg}) {
				t.Errorf("Range(%v, %d) = %v, %d", b, n, d, v)
			}
		}
	}
	if d, v := Range(Start(nil), 1); v != 0 || !sameReader(d, api.Bits{}) {
		t.Error(d, v)
	}
}

// P2.3

func TestRight(t *testing.T) {
	for _, s := range []string{"", "0", "1", "1111111", "11111111", "00000000", "111111111", "0000000000000001"} {
		if k := inked(s); !Right(k) {
			t.Errorf("Right(%v) = false", k)
		}
	}
	if !Right(api.Ink{Bytes: []byte{}}) {
		t.Error("an empty ink")
	}
	for _, k := range wrongInks {
		if Right(k) {
			t.Errorf("Right(%v) = true", k)
		}
	}
}

// Every ink of two bytes: right are those, behind whose Many bits nothing but 0 stands.
func TestRightOfEveryInk(t *testing.T) {
	for x := range 1 << 16 {
		k := api.Ink{Bytes: []byte{byte(x >> 8), byte(x)}}
		for k.Many = -1; k.Many <= 25; k.Many++ {
			want := k.Many >= 9 && k.Many <= 16 && x%(1<<(16-k.Many)) == 0
			if Right(k) != want {
				t.Fatalf("Right(%v) = %v", k, !want)
			}
		}
	}
}

func TestAdd(t *testing.T) {
	for _, c := range []struct {
		k    string
		v    uint64
		n    int
		want string
	}{
		{"", 0, 0, ""},
		{"", 0, 1, "0"},
		{"", 1, 1, "1"},
		{"", 5, 3, "101"},
		{"", 1, 8, "00000001"},
		{"", 511, 9, "111111111"},
		{"1", 0, 0, "1"},
		{"1", 2, 3, "1010"},
		{"1010010", 1, 1, "10100101"},
		{"1010010", 2, 2, "101001010"},
		{"10100101", 0xc3, 8, "1010010111000011"},
		{"111", 0, 6, "111000000"},
		{"", math.MaxUint64, 64, strings.Repeat("1", 64)},
		{"0", math.MaxUint64, 64, "0" + strings.Repeat("1", 64)},
		{"0000000", math.MaxUint64, 64, "0000000" + strings.Repeat("1", 64)},
		{"101", 0, 64, "101" + strings.Repeat("0", 64)},
		{"", 1, 64, strings.Repeat("0", 63) + "1"},
	} {
		k, err := Add(inked(c.k), c.v, c.n)
		if err != api.OK || !sameInk(k, inked(c.want)) || !Right(k) {
			t.Errorf("Add(%q, %d, %d) = %v, %d; want %q", c.k, c.v, c.n, k, err, c.want)
		}
	}
}

func TestAddAtTheGreatestNumber(t *testing.T) {
	k := inked("101")
	for n := range 64 {
		least := uint64(1) << n
		l, err := Add(k, least-1, n)
		if err != api.OK || !sameInk(l, inked("101"+strings.Repeat("1", n))) {
			t.Errorf("Add(_, %d, %d) = %v, %d", least-1, n, l, err)
		}
		for _, v := range []uint64{least, least + 1, math.MaxUint64} {
			if l, err := Add(k, v, n); err != api.ErrField || !sameInk(l, k) {
				t.Errorf("Add(_, %d, %d) = %v, %d; want ErrField", v, n, l, err)
			}
		}
	}
}

func TestAddRefuses(t *testing.T) {
	for _, k := range wrongInks {
		for _, n := range []int{0, 1, 64, -1, 65} {
			for _, v := range []uint64{0, math.MaxUint64} {
				if l, err := Add(k, v, n); err != api.ErrArg || !sameInk(l, k) {
					t.Errorf("Add(%v, %d, %d) = %v, %d; want ErrArg", k, v, n, l, err)
				}
			}
		}
	}
	for _, n := range wrongSizes {
		for _, s := range []string{"", "1", "11111111"} {
			for _, v := range []uint64{0, math.MaxUint64} {
				if l, err := Add(inked(s), v, n); err != api.ErrArg || !sameInk(l, inked(s)) {
					t.Errorf("Add(%q, %d, %d) = %v, %d; want ErrArg", s, v, n, l, err)
				}
			}
		}
	}
}

func TestAddRange(t *testing.T) {
	for _, c := range ranges {
		for _, s := range []string{"", "1", "1010010", "10100101", "000000001"} {
			k, err := AddRange(inked(s), c.v, c.n)
			if err != api.OK || !sameInk(k, inked(s+c.bits)) {
				t.Errorf("AddRange(%q, %d, %d) = %v, %d; want %q behind", s, c.v, c.n, k, err, c.bits)
			}
		}
	}
}

func TestAddRangeRefuses(t *testing.T) {
	for _, k := range wrongInks {
		for _, n := range []uint64{0, 1, 5, 1 << 32, 1<<32 + 1} {
			for _, v := range []uint64{0, 5, math.MaxUint64} {
				if l, err := AddRange(k, v, n); err != api.ErrArg || !sameInk(l, k) {
					t.Errorf("AddRange(%v, %d, %d) = %v, %d; want ErrArg", k, v, n, l, err)
				}
			}
		}
	}
	k := inked("101")
	for _, n := range wrongRanges {
		for _, v := range []uint64{0, 5, math.MaxUint64} {
			if l, err := AddRange(k, v, n); err != api.ErrArg || !sameInk(l, k) {
				t.Errorf("AddRange(_, %d, %d) = %v, %d; want ErrArg", v, n, l, err)
			}
		}
	}
	for _, n := range []uint64{1, 2, 5, 8, 1<<32 - 1, 1 << 32} {
		for _, v := range []uint64{n, n + 1, math.MaxUint64} {
			if l, err := AddRange(k, v, n); err != api.ErrField || !sameInk(l, k) {
				t.Errorf("AddRange(_, %d, %d) = %v, %d; want ErrField", v, n, l, err)
			}
		}
	}
}

// What is handed in is neither changed nor kept by what is written, its spare room neither.
func TestInksAreNewMemory(t *testing.T) {
	room := []byte{0xa5, 0xc0, 9, 9, 9, 9, 9, 9, 9, 9, 9, 9}
	before := bytes.Clone(room)
	k := api.Ink{Bytes: room[:2], Many: 10}
	one, _ := Add(k, 3, 2)
	none, _ := Add(k, 0, 0)
	more, _ := Add(k, math.MaxUint64, 64)
	some, _ := AddRange(k, 4, 5)
	same, _ := AddRange(k, 0, 1)
	long, _ := AddRange(k, 1<<32-1, 1<<32)
	for _, x := range []api.Ink{one, none, more, some, same, long} {
		x.Bytes = append(x.Bytes, 5)
		for i := range x.Bytes {
			x.Bytes[i] = 77
		}
	}
	if !bytes.Equal(room, before) {
		t.Errorf("%v was changed to %v", before, room)
	}
}

func TestReadingChangesNothing(t *testing.T) {
	room := []byte{0xa5, 0xc3, 9, 9}
	before := bytes.Clone(room)
	c := Start(room[:2])
	Get(c, 3)
	Get(c, 17)
	Range(c, 5)
	Range(c, 1<<32)
	if !bytes.Equal(room, before) || c.At != 0 || c.Err != api.OK {
		t.Errorf("%v was changed to %v", before, room)
	}
}

// P2.4

// step is a number that is written: of so many bits, or, if of isn't 0, of a range.
type step struct {
	v  uint64
	n  int
	of uint64
}

// chance answers some number, of few bits as often as of many.
func chance(r *rand.Rand) step {
	if r.Intn(2) == 0 {
		n := r.Intn(65)
		return step{v: r.Uint64() & (1<<n - 1), n: n}
	}
	of := 1 + r.Uint64()>>(32+r.Intn(32))
	return step{v: r.Uint64() % of, of: of}
}

// write answers k with the number behind.
func (s step) write(k api.Ink) (api.Ink, api.Errno) {
	if s.of != 0 {
		return AddRange(k, s.v, s.of)
	}
	return Add(k, s.v, s.n)
}

// read answers the number that is behind the reader.
func (s step) read(c api.Bits) (api.Bits, uint64) {
	if s.of != 0 {
		return Range(c, s.of)
	}
	return Get(c, s.n)
}

func TestNumbersAreReadAsTheyWere(t *testing.T) {
	r := rand.New(rand.NewSource(2))
	for range 300 {
		var k api.Ink
		var steps []step
		var ends []int
		for range r.Intn(40) {
			s := chance(r)
			l, err := s.write(k)
			if err != api.OK || !Right(l) || !strings.HasPrefix(told(l.Bytes), told(k.Bytes)[:k.Many]) {
				t.Fatalf("%v behind %v: %v, %d", s, k, l, err)
			}
			k = l
			steps, ends = append(steps, s), append(ends, k.Many)
		}
		c := Start(k.Bytes)
		for i, s := range steps {
			d, v := s.read(c)
			if v != s.v || !sameReader(d, api.Bits{Bytes: k.Bytes, At: ends[i]}) {
				t.Fatalf("%v at %d: %v, %d", s, c.At, d, v)
			}
			c = d
		}
		if n := Left(c); n != 8*len(k.Bytes)-k.Many {
			t.Fatalf("%d bits are left of %v", n, k)
		}
	}
}

func TestEveryNumberOfSmallRanges(t *testing.T) {
	for n := uint64(1); n <= 300; n++ {
		var k api.Ink
		for v := range n {
			l, err := AddRange(k, v, n)
			if err != api.OK {
				t.Fatal(v, n, err)
			}
			k = l
		}
		c := Start(k.Bytes)
		for v := range n {
			d, u := Range(c, n)
			if d.Err != api.OK || u != v {
				t.Fatalf("%d of %d: %d, %d", v, n, u, d.Err)
			}
			c = d
		}
		if c.At != k.Many {
			t.Fatalf("of %d: at %d; want %d", n, c.At, k.Many)
		}
	}
}

// Whatever bits there are, they are those of the number that is read of them.
func TestBitsAreOfOneNumberAlone(t *testing.T) {
	r := rand.New(rand.NewSource(3))
	b := make([]byte, 12)
	for range 5000 {
		r.Read(b)
		c := api.Bits{Bytes: b, At: r.Intn(20)}
		for _, s := range []step{{n: r.Intn(65)}, {of: 1 + r.Uint64()>>(32+r.Intn(32))}, {of: 1 << 32}} {
			d, v := s.read(c)
			s.v = v
			k, err := s.write(api.Ink{})
			if d.Err != api.OK || err != api.OK || told(k.Bytes)[:k.Many] != told(b)[c.At:d.At] {
				t.Fatalf("%v of %v at %d: %v, %v, %d", s, b, c.At, d, k, err)
			}
		}
	}
}
