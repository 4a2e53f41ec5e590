package common

import (
	"bytes"
	"math"
	"math/rand"
	"testing"

	"crossbar/api"
)

// told answers the bytes of c, digit by digit to the base 2, as the chapter puts them.
func told(c api.Common) []byte {
	digits := []int{1, 0, 0}
	if c.Pad {
		digits[2] = 1
	}
	add := func(v, n int) {
		for i := n - 1; i >= 0; i-- {
			digits = append(digits, v>>i&1)
		}
	}
	add(c.Count, 5)
	add(c.Type, 8)
	add(c.Size/4-1, 16)
	out := make([]byte, len(digits)/8)
	for i, x := range digits {
		out[i/8] = out[i/8]*2 + byte(x)
	}
	return out
}

// heard answers what is read of b, byte by byte, as the chapter puts it.
func heard(b []byte) (api.Common, api.Errno) {
	switch {
	case len(b) <= 3:
		return api.Common{}, api.ErrShort
	case b[0] < 128 || b[0] > 191:
		return api.Common{}, api.ErrVersion
	}
	first := int(b[0]) - 128
	c := api.Common{Pad: first >= 32, Count: first % 32, Type: int(b[1])}
	c.Size = 1024*int(b[2]) + 4*int(b[3]) + 4
	if len(b) < c.Size {
		return api.Common{}, api.ErrLength
	}
	return c, api.OK
}

// filled answers the bytes of start, and so many bytes x behind them that there are n.
func filled(n int, x byte, start ...byte) []byte {
	return append(start, bytes.Repeat([]byte{x}, n-len(start))...)
}

// forms are headers with their bytes.
var forms = []struct {
	c api.Common
	b [4]byte
}{
	{api.Common{Size: 4}, [4]byte{128, 0, 0, 0}},
	{api.Common{Size: 8}, [4]byte{128, 0, 0, 1}},
	{api.Common{Size: 12}, [4]byte{128, 0, 0, 2}},
	{api.Common{Size: 28, Type: 200, Count: 1}, [4]byte{129, 200, 0, 6}},
	{api.Common{Size: 1024}, [4]byte{128, 0, 0, 255}},
	{api.Common{Size: 1028}, [4]byte{128, 0, 1, 0}},
	{api.Common{Size: 1032}, [4]byte{128, 0, 1, 1}},
	{api.Common{Size: 65528}, [4]byte{128, 0, 63, 253}},
	{api.Common{Size: 65532}, [4]byte{128, 0, 63, 254}},
	{api.Common{Size: 65536}, [4]byte{128, 0, 63, 255}},
	{api.Common{Size: 65540}, [4]byte{128, 0, 64, 0}},
	{api.Common{Size: 131072}, [4]byte{128, 0, 127, 255}},
	{api.Common{Size: 131076}, [4]byte{128, 0, 128, 0}},
	{api.Common{Size: 262140}, [4]byte{128, 0, 255, 254}},
	{api.Common{Size: 262144}, [4]byte{128, 0, 255, 255}},
	{api.Common{Size: 4, Pad: true}, [4]byte{160, 0, 0, 0}},
	{api.Common{Size: 4, Count: 1}, [4]byte{129, 0, 0, 0}},
	{api.Common{Size: 4, Count: 16}, [4]byte{144, 0, 0, 0}},
	{api.Common{Size: 4, Count: 31}, [4]byte{159, 0, 0, 0}},
	{api.Common{Size: 4, Count: 31, Pad: true}, [4]byte{191, 0, 0, 0}},
	{api.Common{Size: 4, Type: 1}, [4]byte{128, 1, 0, 0}},
	{api.Common{Size: 4, Type: 127}, [4]byte{128, 127, 0, 0}},
	{api.Common{Size: 4, Type: 128}, [4]byte{128, 128, 0, 0}},
	{api.Common{Size: 4, Type: api.TypeSR}, [4]byte{128, 200, 0, 0}},
	{api.Common{Size: 4, Type: api.TypePSFB}, [4]byte{128, 206, 0, 0}},
	{api.Common{Size: 4, Type: 255}, [4]byte{128, 255, 0, 0}},
	{api.Common{Pad: true, Count: 3, Type: 205, Size: 16}, [4]byte{163, 205, 0, 3}},
	{api.Common{Pad: true, Count: 31, Type: 255, Size: 262144}, [4]byte{191, 255, 255, 255}},
}

// wrong are headers that aren't right.
var wrong = []api.Common{
	{},
	{Size: 0, Pad: true, Count: 1, Type: 200},
	{Size: 1},
	{Size: 2},
	{Size: 3},
	{Size: 5},
	{Size: 6},
	{Size: 7},
	{Size: 262143},
	{Size: 262145},
	{Size: 262146},
	{Size: 262147},
	{Size: 262148},
	{Size: 524288},
	{Size: 1 << 32},
	{Size: 1<<32 + 4},
	{Size: -1},
	{Size: -4},
	{Size: -262144},
	{Size: math.MinInt},
	{Size: math.MinInt + 4},
	{Size: math.MaxInt},
	{Size: math.MaxInt - 3},
	{Size: 4, Count: -1},
	{Size: 4, Count: -32},
	{Size: 4, Count: 32},
	{Size: 4, Count: 33},
	{Size: 4, Count: 64},
	{Size: 4, Count: 256},
	{Size: 4, Count: 1 << 32},
	{Size: 4, Count: math.MinInt},
	{Size: 4, Count: math.MaxInt},
	{Size: 4, Type: -1},
	{Size: 4, Type: -56},
	{Size: 4, Type: 256},
	{Size: 4, Type: 456},
	{Size: 4, Type: 1<<32 + 200},
	{Size: 4, Type: math.MinInt},
	{Size: 4, Type: math.MaxInt},
	{Size: 4, Count: 32, Type: 256},
	{Size: 6, Count: 31, Type: 256},
	{Size: 6, Count: -1, Type: 255},
	{Size: 0, Count: -1, Type: -1},
	{Size: 262148, Count: 32, Type: 256, Pad: true},
}

// chance answers some right header.
func chance(r *rand.Rand) api.Common {
	return api.Common{
		Pad:   r.Intn(2) == 0,
		Count: r.Intn(32),
		Type:  r.Intn(256),
		Size:  4 + 4*r.Intn(65536>>r.Intn(17)),
	}
}

// checkCommon holds what is said of c, which is right, against b, its bytes.
func checkCommon(t *testing.T, c api.Common, b []byte) {
	t.Helper()
	if !Right(c) {
		t.Errorf("Right(%v) is false", c)
	}
	if x, err := Write(c); !bytes.Equal(x, b) || err != api.OK {
		t.Errorf("Write(%v) = %v, %d; want %v", c, x, err, b)
	}
}

// checkWrong tells an error, if c is right or has bytes.
func checkWrong(t *testing.T, c api.Common) {
	t.Helper()
	if Right(c) {
		t.Errorf("Right(%v) is true", c)
	}
	if b, err := Write(c); b != nil || err != api.ErrArg {
		t.Errorf("Write(%v) = %v, %d; want none, ErrArg", c, b, err)
	}
}

// checkRead holds what is read of b against c and want.
func checkRead(t *testing.T, b []byte, c api.Common, want api.Errno) {
	t.Helper()
	if d, err := Read(b); d != c || err != want {
		t.Errorf("Read(%v.., %d bytes) = %v, %d; want %v, %d", b[:min(4, len(b))], len(b), d, err, c, want)
	}
}

// P10.1

func TestHeadersHaveTheirBytes(t *testing.T) {
	for _, f := range forms {
		checkCommon(t, f.c, f.b[:])
	}
}

func TestWrongHeadersHaveNoBytes(t *testing.T) {
	for _, c := range wrong {
		checkWrong(t, c)
	}
}

func TestEveryCountAndType(t *testing.T) {
	for count := -70; count <= 300; count++ {
		for kind := -300; kind <= 600; kind++ {
			c := api.Common{Pad: kind%2 != 0, Count: count, Type: kind, Size: 28}
			if count >= 0 && count <= 31 && kind >= 0 && kind <= 255 {
				checkCommon(t, c, told(c))
			} else {
				checkWrong(t, c)
			}
		}
	}
}

func TestEverySize(t *testing.T) {
	for size := -70000; size <= 530000; size++ {
		c := api.Common{Pad: size%8 != 0, Count: 5, Type: 200, Size: size}
		if size >= 4 && size <= 262144 && size&3 == 0 {
			checkCommon(t, c, told(c))
		} else {
			checkWrong(t, c)
		}
	}
}

// One field that may not be is enough, wherever the others stand.
func TestFieldsAtTheirEnds(t *testing.T) {
	for _, on := range []bool{false, true} {
		for _, count := range []int{-1, 0, 31, 32} {
			for _, kind := range []int{-1, 0, 255, 256} {
				for _, size := range []int{0, 4, 6, 262144, 262148} {
					c := api.Common{Pad: on, Count: count, Type: kind, Size: size}
					right := (count == 0 || count == 31) && (kind == 0 || kind == 255) && (size == 4 || size == 262144)
					if right {
						checkCommon(t, c, told(c))
					} else {
						checkWrong(t, c)
					}
				}
			}
		}
	}
}

// P10.2

// A header is read where just its Size is there, or more; not where a byte is missing.
func TestReadByHowManyBytesThereAre(t *testing.T) {
	for _, f := range forms {
		for _, x := range []byte{0, 128, 255} {
			b := filled(f.c.Size+5, x, f.b[:]...)
			for more := range 6 {
				checkRead(t, b[:f.c.Size+more], f.c, api.OK)
			}
			want := api.ErrLength
			if f.c.Size == 4 {
				want = api.ErrShort
			}
			checkRead(t, b[:f.c.Size-1], api.Common{}, want)
		}
	}
}

func TestReadOfTheExample(t *testing.T) {
	b := filled(28, 77, 129, 200, 0, 6)
	checkRead(t, b, api.Common{Count: 1, Type: 200, Size: 28}, api.OK)
	checkRead(t, b[:27], api.Common{}, api.ErrLength)
	checkRead(t, b[:4], api.Common{}, api.ErrLength)
	checkRead(t, b[:3], api.Common{}, api.ErrShort)
}

// Fewer than four bytes are too short before any of them is looked at.
func TestReadOfFewBytes(t *testing.T) {
	checkRead(t, nil, api.Common{}, api.ErrShort)
	checkRead(t, []byte{}, api.Common{}, api.ErrShort)
	for first := range 256 {
		checkRead(t, []byte{byte(first)}, api.Common{}, api.ErrShort)
		for second := range 256 {
			checkRead(t, []byte{byte(first), byte(second)}, api.Common{}, api.ErrShort)
			checkRead(t, []byte{byte(first), 200, byte(second)}, api.Common{}, api.ErrShort)
		}
	}
}

// From four bytes on, another version is told ahead of a Size that is more than there is.
func TestReadOfAnotherVersion(t *testing.T) {
	for first := range 256 {
		if first/64 == 2 {
			continue
		}
		for n := 4; n <= 40; n++ {
			checkRead(t, filled(n, 0, byte(first), 200, 0, 0), api.Common{}, api.ErrVersion)
			checkRead(t, filled(n, 0, byte(first), 200, 0, 6), api.Common{}, api.ErrVersion)
			checkRead(t, filled(n, 128, byte(first), 200, 255, 255), api.Common{}, api.ErrVersion)
		}
	}
}

func TestReadOfEverySize(t *testing.T) {
	b := make([]byte, 262148)
	b[0], b[1] = 129, 201
	for size := 4; size <= 262144; size += 4 {
		b[2], b[3] = byte((size/4-1)>>8), byte(size/4-1)
		checkRead(t, b[:size], api.Common{Count: 1, Type: 201, Size: size}, api.OK)
		checkRead(t, b, api.Common{Count: 1, Type: 201, Size: size}, api.OK)
		if size > 4 {
			checkRead(t, b[:size-1], api.Common{}, api.ErrLength)
			checkRead(t, b[:size-4], api.Common{}, api.ErrLength)
			checkRead(t, b[:4], api.Common{}, api.ErrLength)
		}
	}
}

func TestReadOfEveryFirstAndSecond(t *testing.T) {
	for first := range 256 {
		for second := range 256 {
			for n := 4; n < 14; n++ {
				b := filled(n, 9, byte(first), byte(second), 0, 1)
				c, err := heard(b)
				checkRead(t, b, c, err)
			}
		}
	}
}

func TestSpareRoomIsNoBytes(t *testing.T) {
	room := filled(28, 0, 129, 200, 0, 6)
	checkRead(t, room[:0], api.Common{}, api.ErrShort)
	checkRead(t, room[:3], api.Common{}, api.ErrShort)
	checkRead(t, room[:4], api.Common{}, api.ErrLength)
	checkRead(t, room[:27], api.Common{}, api.ErrLength)
	checkRead(t, room[:28], api.Common{Count: 1, Type: 200, Size: 28}, api.OK)
}

// Only the four first bytes say anything.
func TestBytesBehindSayNothing(t *testing.T) {
	r := rand.New(rand.NewSource(7))
	b := filled(60, 0, 161, 202, 0, 6)
	for range 2000 {
		r.Read(b[4:])
		n := 28 + r.Intn(33)
		checkRead(t, b[:n], api.Common{Pad: true, Count: 1, Type: 202, Size: 28}, api.OK)
	}
}

// P10.3

func TestHeadersAreReadAsTheyWere(t *testing.T) {
	r := rand.New(rand.NewSource(8))
	behind := make([]byte, 300000)
	r.Read(behind)
	for range 5000 {
		c := chance(r)
		b, err := Write(c)
		if err != api.OK || !bytes.Equal(b, told(c)) {
			t.Fatalf("Write(%v) = %v, %d", c, b, err)
		}
		b = append(b, behind[:c.Size-4+r.Intn(2)*r.Intn(20)]...)
		checkRead(t, b, c, api.OK)
		if c.Size > 4 {
			checkRead(t, b[:4+r.Intn(c.Size-4)], api.Common{}, api.ErrLength)
		}
	}
}

// Whatever is read is right, and has just the bytes that it was read from: so no two have the same.
func TestBytesAreOfOneHeaderAlone(t *testing.T) {
	b := make([]byte, 262144)
	for first := 128; first < 192; first++ {
		for second := range 256 {
			for _, words := range []int{0, 1, 255, 256, 4660, 65535} {
				b[0], b[1], b[2], b[3] = byte(first), byte(second), byte(words>>8), byte(words)
				c, err := Read(b)
				if err != api.OK || !Right(c) {
					t.Fatalf("Read(%v) = %v, %d", b[:4], c, err)
				}
				checkCommon(t, c, b[:4])
			}
		}
	}
}

// A bit that is turned over makes another header, or none.
func TestEveryBitCounts(t *testing.T) {
	r := rand.New(rand.NewSource(9))
	b := make([]byte, 262144)
	for i := range 16000 {
		c := chance(r)
		copy(b, told(c))
		b[i/8%4] ^= 1 << (i % 8)
		if d, err := Read(b); err == api.OK && d == c {
			t.Fatalf("%v is %v as well", b[:4], c)
		}
	}
}

func TestAnyBytesAreReadOrRefused(t *testing.T) {
	r := rand.New(rand.NewSource(10))
	for range 200000 {
		b := make([]byte, r.Intn(40))
		r.Read(b)
		if len(b) > 3 && r.Intn(4) > 0 {
			b[0] = b[0]&63 | 128
			b[2], b[3] = 0, b[3]&15
		}
		c, err := heard(b)
		checkRead(t, b, c, err)
	}
}

// Rule 3: what is handed in is neither changed nor kept, its spare room neither.

func TestReadLeavesTheBytesAlone(t *testing.T) {
	room := filled(40, 5, 129, 200, 0, 6)
	before := bytes.Clone(room)
	for n := range 29 {
		Read(room[:n])
	}
	if !bytes.Equal(room, before) {
		t.Errorf("%v was changed to %v", before, room)
	}
}

func TestWriteAnswersNewMemory(t *testing.T) {
	c := api.Common{Pad: true, Count: 3, Type: 205, Size: 16}
	b, _ := Write(c)
	b = append(b, 5)
	for i := range b {
		b[i] = 77
	}
	checkCommon(t, c, told(c))
}
