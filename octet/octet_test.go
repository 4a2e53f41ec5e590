package octet

import (
	"bytes"
	"math"
	"math/rand"
	"testing"

	"crossbar/api"
)

var sample = []byte{0x80, 1, 2, 3, 4, 5, 6, 7, 8, 0xff}

// P1.1

func TestGetReadsHighestByteFirst(t *testing.T) {
	for _, c := range []struct {
		b     []byte
		at, n int
		want  uint64
	}{
		{[]byte{1, 2, 3}, 1, 2, 515},
		{sample, 0, 1, 0x80},
		{sample, 0, 2, 0x8001},
		{sample, 0, 3, 0x800102},
		{sample, 0, 4, 0x80010203},
		{sample, 0, 5, 0x8001020304},
		{sample, 0, 6, 0x800102030405},
		{sample, 0, 7, 0x80010203040506},
		{sample, 0, 8, 0x8001020304050607},
		{sample, 9, 1, 0xff},
		{sample, 2, 8, 0x02030405060708ff},
		{bytes.Repeat([]byte{0xff}, 8), 0, 8, math.MaxUint64},
		{make([]byte, 8), 0, 8, 0},
	} {
		if v, err := Get(c.b, c.at, c.n); v != c.want || err != api.OK {
			t.Errorf("Get(%v, %d, %d) = %#x, %d; want %#x", c.b, c.at, c.n, v, err, c.want)
		}
	}
}

func TestSignedReadsTheSign(t *testing.T) {
	for _, c := range []struct {
		b     []byte
		at, n int
		want  int64
	}{
		{[]byte{0}, 0, 1, 0},
		{[]byte{0x7f}, 0, 1, 127},
		{[]byte{0x80}, 0, 1, -128},
		{[]byte{0xff}, 0, 1, -1},
		{[]byte{0, 0x80, 0}, 0, 2, 128},
		{[]byte{0, 0x80, 0}, 1, 2, -32768},
		{[]byte{0x7f, 0xff, 0xff}, 0, 3, 8388607},
		{[]byte{0x80, 0, 0}, 0, 3, -8388608},
		{[]byte{0xff, 0xff, 0xfe}, 0, 3, -2},
		{[]byte{0x7f, 255, 255, 255, 255, 255, 255, 255}, 0, 8, math.MaxInt64},
		{[]byte{0x80, 0, 0, 0, 0, 0, 0, 0}, 0, 8, math.MinInt64},
		{bytes.Repeat([]byte{0xff}, 8), 0, 8, -1},
	} {
		if v, err := Signed(c.b, c.at, c.n); v != c.want || err != api.OK {
			t.Errorf("Signed(%v, %d, %d) = %d, %d; want %d", c.b, c.at, c.n, v, err, c.want)
		}
	}
}

// badPlaces are places of a number that can't be in ten bytes, with the error that is named first.
var badPlaces = []struct {
	at, n int
	want  api.Errno
}{
	{0, 0, api.ErrArg},
	{0, 9, api.ErrArg},
	{0, -1, api.ErrArg},
	{0, math.MinInt, api.ErrArg},
	{0, math.MaxInt, api.ErrArg},
	{-1, 1, api.ErrArg},
	{math.MinInt, 8, api.ErrArg},
	{-1, 0, api.ErrArg},
	{20, 0, api.ErrArg},
	{20, 9, api.ErrArg},
	{3, 8, api.ErrShort},
	{9, 2, api.ErrShort},
	{10, 1, api.ErrShort},
	{11, 1, api.ErrShort},
	{math.MaxInt, 1, api.ErrShort},
	{math.MaxInt, 8, api.ErrShort},
}

func TestGetAndSignedRefuse(t *testing.T) {
	for _, c := range badPlaces {
		if v, err := Get(sample, c.at, c.n); v != 0 || err != c.want {
			t.Errorf("Get(_, %d, %d) = %d, %d; want 0, %d", c.at, c.n, v, err, c.want)
		}
		if v, err := Signed(sample, c.at, c.n); v != 0 || err != c.want {
			t.Errorf("Signed(_, %d, %d) = %d, %d; want 0, %d", c.at, c.n, v, err, c.want)
		}
	}
	if v, err := Get(nil, 0, 1); v != 0 || err != api.ErrShort {
		t.Error(v, err)
	}
	if v, err := Signed(nil, 0, 1); v != 0 || err != api.ErrShort {
		t.Error(v, err)
	}
}

func TestSpareRoomIsNoBytes(t *testing.T) {
	b := sample[:3]
	if v, err := Get(b, 2, 2); v != 0 || err != api.ErrShort {
		t.Error(v, err)
	}
	if p, err := Part(b, 2, 2); p != nil || err != api.ErrShort {
		t.Error(p, err)
	}
	if p, err := Set(b, 2, 2, 1); p != nil || err != api.ErrShort {
		t.Error(p, err)
	}
}

func TestPart(t *testing.T) {
	for _, c := range []struct {
		at, n int
		want  []byte
	}{
		{0, 0, nil},
		{0, 10, sample},
		{0, 1, sample[:1]},
		{4, 3, []byte{4, 5, 6}},
		{9, 1, []byte{0xff}},
		{10, 0, nil},
	} {
		if p, err := Part(sample, c.at, c.n); !bytes.Equal(p, c.want) || err != api.OK {
			t.Errorf("Part(_, %d, %d) = %v, %d; want %v", c.at, c.n, p, err, c.want)
		}
	}
	if p, err := Part(nil, 0, 0); len(p) != 0 || err != api.OK {
		t.Error(p, err)
	}
}

func TestPartRefuses(t *testing.T) {
	for _, c := range []struct {
		at, n int
		want  api.Errno
	}{
		{0, -1, api.ErrArg},
		{-1, 0, api.ErrArg},
		{-1, 20, api.ErrArg},
		{20, -1, api.ErrArg},
		{math.MinInt, math.MinInt, api.ErrArg},
		{0, 11, api.ErrShort},
		{10, 1, api.ErrShort},
		{11, 0, api.ErrShort},
		{1, math.MaxInt, api.ErrShort},
		{math.MaxInt, 1, api.ErrShort},
		{math.MaxInt, math.MaxInt, api.ErrShort},
	} {
		if p, err := Part(sample, c.at, c.n); p != nil || err != c.want {
			t.Errorf("Part(_, %d, %d) = %v, %d; want none, %d", c.at, c.n, p, err, c.want)
		}
	}
}

// P1.2

func TestPut(t *testing.T) {
	for _, c := range []struct {
		v    uint64
		n    int
		want []byte
	}{
		{0, 1, []byte{0}},
		{255, 1, []byte{255}},
		{515, 2, []byte{2, 3}},
		{1, 3, []byte{0, 0, 1}},
		{1<<24 - 1, 3, []byte{255, 255, 255}},
		{0, 8, make([]byte, 8)},
		{0x0102030405060708, 8, []byte{1, 2, 3, 4, 5, 6, 7, 8}},
		{math.MaxUint64, 8, bytes.Repeat([]byte{255}, 8)},
	} {
		if b, err := Put(c.v, c.n); !bytes.Equal(b, c.want) || err != api.OK {
			t.Errorf("Put(%d, %d) = %v, %d; want %v", c.v, c.n, b, err, c.want)
		}
	}
}

func TestPutAtTheGreatestNumber(t *testing.T) {
	for n := 1; n < 8; n++ {
		least := uint64(1) << (8 * n)
		if b, err := Put(least-1, n); !bytes.Equal(b, bytes.Repeat([]byte{255}, n)) || err != api.OK {
			t.Errorf("Put(%d, %d) = %v, %d", least-1, n, b, err)
		}
		for _, v := range []uint64{least, least + 1, math.MaxUint64} {
			if b, err := Put(v, n); b != nil || err != api.ErrField {
				t.Errorf("Put(%d, %d) = %v, %d; want ErrField", v, n, b, err)
			}
		}
	}
}

func TestPutSigned(t *testing.T) {
	for _, c := range []struct {
		v    int64
		n    int
		want []byte
	}{
		{0, 1, []byte{0}},
		{1, 2, []byte{0, 1}},
		{-1, 1, []byte{255}},
		{-1, 8, bytes.Repeat([]byte{255}, 8)},
		{-2, 3, []byte{255, 255, 254}},
		{-129, 2, []byte{255, 127}},
		{math.MaxInt64, 8, []byte{127, 255, 255, 255, 255, 255, 255, 255}},
		{math.MinInt64, 8, []byte{128, 0, 0, 0, 0, 0, 0, 0}},
	} {
		if b, err := PutSigned(c.v, c.n); !bytes.Equal(b, c.want) || err != api.OK {
			t.Errorf("PutSigned(%d, %d) = %v, %d; want %v", c.v, c.n, b, err, c.want)
		}
	}
}

func TestPutSignedAtBothEnds(t *testing.T) {
	for n := 1; n < 8; n++ {
		half := int64(1) << (8*n - 1)
		top := append([]byte{127}, bytes.Repeat([]byte{255}, n-1)...)
		if b, err := PutSigned(half-1, n); !bytes.Equal(b, top) || err != api.OK {
			t.Errorf("PutSigned(%d, %d) = %v, %d", half-1, n, b, err)
		}
		low := append([]byte{128}, make([]byte, n-1)...)
		if b, err := PutSigned(-half, n); !bytes.Equal(b, low) || err != api.OK {
			t.Errorf("PutSigned(%d, %d) = %v, %d", -half, n, b, err)
		}
		for _, v := range []int64{half, -half - 1, math.MaxInt64, math.MinInt64} {
			if b, err := PutSigned(v, n); b != nil || err != api.ErrField {
				t.Errorf("PutSigned(%d, %d) = %v, %d; want ErrField", v, n, b, err)
			}
		}
	}
}

// wrongSizes are what n may not be.
var wrongSizes = []int{0, 9, -1, 64, math.MinInt, math.MaxInt}

func TestPutAndPutSignedRefuseSizes(t *testing.T) {
	for _, n := range wrongSizes {
		for _, v := range []uint64{0, 255, math.MaxUint64} {
			if b, err := Put(v, n); b != nil || err != api.ErrArg {
				t.Errorf("Put(%d, %d) = %v, %d; want ErrArg", v, n, b, err)
			}
			if b, err := PutSigned(int64(v), n); b != nil || err != api.ErrArg {
				t.Errorf("PutSigned(%d, %d) = %v, %d; want ErrArg", int64(v), n, b, err)
			}
		}
	}
}

// P1.3

func TestSet(t *testing.T) {
	for _, c := range []struct {
		at, n int
		v     uint64
		want  []byte
	}{
		{0, 1, 9, []byte{9, 2, 3, 4, 5, 6, 7, 8}},
		{7, 1, 0, []byte{1, 2, 3, 4, 5, 6, 7, 0}},
		{3, 2, 0xabcd, []byte{1, 2, 3, 0xab, 0xcd, 6, 7, 8}},
		{5, 3, 7, []byte{1, 2, 3, 4, 5, 0, 0, 7}},
		{0, 8, math.MaxUint64, bytes.Repeat([]byte{255}, 8)},
	} {
		b := []byte{1, 2, 3, 4, 5, 6, 7, 8}
		if x, err := Set(b, c.at, c.n, c.v); !bytes.Equal(x, c.want) || err != api.OK {
			t.Errorf("Set(_, %d, %d, %d) = %v, %d; want %v", c.at, c.n, c.v, x, err, c.want)
		}
	}
}

func TestSetNamesErrorsInOrder(t *testing.T) {
	for _, c := range []struct {
		at, n int
		v     uint64
		want  api.Errno
	}{
		{0, 0, 0, api.ErrArg},
		{-1, 9, 256, api.ErrArg},
		{20, 0, 256, api.ErrArg},
		{0, 1, 256, api.ErrField},
		{-1, 1, 256, api.ErrField},
		{20, 1, 256, api.ErrField},
		{-1, 1, 255, api.ErrArg},
		{math.MinInt, 8, 255, api.ErrArg},
		{3, 8, 255, api.ErrShort},
		{10, 1, 255, api.ErrShort},
		{11, 1, 255, api.ErrShort},
		{math.MaxInt, 8, 255, api.ErrShort},
	} {
		if x, err := Set(sample, c.at, c.n, c.v); x != nil || err != c.want {
			t.Errorf("Set(_, %d, %d, %d) = %v, %d; want none, %d", c.at, c.n, c.v, x, err, c.want)
		}
	}
	for _, n := range wrongSizes {
		if x, err := Set(sample, 0, n, 0); x != nil || err != api.ErrArg {
			t.Errorf("Set(_, 0, %d, 0) = %v, %d; want ErrArg", n, x, err)
		}
	}
}

func TestJoin(t *testing.T) {
	one, two := []byte{1}, []byte{2, 3}
	for _, c := range []struct {
		l    [][]byte
		want []byte
	}{
		{nil, nil},
		{[][]byte{nil, {}, nil}, nil},
		{[][]byte{one}, one},
		{[][]byte{one, two}, []byte{1, 2, 3}},
		{[][]byte{two, one}, []byte{2, 3, 1}},
		{[][]byte{nil, one, nil, one, two, nil}, []byte{1, 1, 2, 3}},
	} {
		if b := Join(c.l...); !bytes.Equal(b, c.want) {
			t.Errorf("Join(%v) = %v; want %v", c.l, b, c.want)
		}
	}
	if b := Join(); len(b) != 0 {
		t.Error(b)
	}
}

// What is handed in is neither changed nor kept, its spare room neither.
func TestAnswersAreNewMemory(t *testing.T) {
	room := []byte{1, 2, 3, 4, 9, 9, 9, 9}
	before := bytes.Clone(room)
	b := room[:4]
	set, _ := Set(b, 1, 2, 0x0708)
	part, _ := Part(b, 0, 4)
	some, _ := Part(b, 1, 2)
	one := Join(b)
	more := Join(b[:1], b[1:3], b[3:])
	for _, x := range [][]byte{set, part, some, one, more} {
		x = append(x, 5)
		for i := range x {
			x[i] = 77
		}
	}
	if !bytes.Equal(room, before) {
		t.Errorf("%v was changed to %v", before, room)
	}
}

// P1.4

func TestNumbersAreReadAsTheyWere(t *testing.T) {
	r := rand.New(rand.NewSource(1))
	for n := 1; n <= 8; n++ {
		free := 64 - 8*n
		for range 500 {
			u := r.Uint64() >> free
			b, err := Put(u, n)
			if err != api.OK || len(b) != n {
				t.Fatalf("Put(%d, %d) = %v, %d", u, n, b, err)
			}
			if v, err := Get(b, 0, n); v != u || err != api.OK {
				t.Fatalf("Get(%v, 0, %d) = %d, %d; want %d", b, n, v, err, u)
			}
			s := int64(r.Uint64()) >> free
			b, err = PutSigned(s, n)
			if err != api.OK || len(b) != n {
				t.Fatalf("PutSigned(%d, %d) = %v, %d", s, n, b, err)
			}
			if v, err := Signed(b, 0, n); v != s || err != api.OK {
				t.Fatalf("Signed(%v, 0, %d) = %d, %d; want %d", b, n, v, err, s)
			}
		}
	}
}

func TestBytesAreOfOneNumberAlone(t *testing.T) {
	r := rand.New(rand.NewSource(2))
	for n := 1; n <= 8; n++ {
		for range 500 {
			b := make([]byte, n+4)
			r.Read(b)
			at := r.Intn(5)
			v, _ := Get(b, at, n)
			if p, err := Put(v, n); !bytes.Equal(p, b[at:at+n]) || err != api.OK {
				t.Fatalf("Put(%d, %d) = %v, %d; want %v", v, n, p, err, b[at:at+n])
			}
			s, _ := Signed(b, at, n)
			if p, err := PutSigned(s, n); !bytes.Equal(p, b[at:at+n]) || err != api.OK {
				t.Fatalf("PutSigned(%d, %d) = %v, %d; want %v", s, n, p, err, b[at:at+n])
			}
			if x, err := Set(b, at, n, v); !bytes.Equal(x, b) || err != api.OK {
				t.Fatalf("Set(%v, %d, %d, %d) = %v, %d", b, at, n, v, x, err)
			}
		}
	}
}

func TestEveryShortNumber(t *testing.T) {
	seen := map[string]bool{}
	for u := range uint64(1 << 16) {
		b, err := Put(u, 2)
		v, readErr := Get(b, 0, 2)
		if err != api.OK || readErr != api.OK || v != u || seen[string(b)] {
			t.Fatal(u, b, err, v, readErr)
		}
		seen[string(b)] = true
		s := int64(u) - 1<<15
		b, err = PutSigned(s, 2)
		w, readErr := Signed(b, 0, 2)
		if err != api.OK || readErr != api.OK || w != s {
			t.Fatal(s, b, err, w, readErr)
		}
	}
}
