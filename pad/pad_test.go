package pad

import (
	"bytes"
	"math"
	"math/rand"
	"testing"

	"crossbar/api"
)

// counted answers n bytes, none of which is 0.
func counted(n int) []byte {
	b := make([]byte, n)
	for i := range b {
		b[i] = byte(1 + i%255)
	}
	return b
}

// behind answers a new list: b, then many bytes x, then the bytes of end.
func behind(b []byte, x byte, many int, end ...byte) []byte {
	out := append(bytes.Clone(b), bytes.Repeat([]byte{x}, many)...)
	return append(out, end...)
}

// P3.1

func TestRound(t *testing.T) {
	for _, c := range []struct{ n, want int }{
		{0, 0},
		{1, 4},
		{2, 4},
		{3, 4},
		{4, 4},
		{5, 8},
		{7, 8},
		{8, 8},
		{65533, 65536},
		{1<<31 - 5, 1<<31 - 4},
		{1<<31 - 4, 1<<31 - 4},
		{1<<31 - 3, 1 << 31},
		{1<<31 - 1, 1 << 31},
		{1 << 31, 1 << 31},
	} {
		if x := Round(c.n); x != c.want {
			t.Errorf("Round(%d) = %d; want %d", c.n, x, c.want)
		}
	}
}

func TestRoundIsTheLeastMultiple(t *testing.T) {
	for n := range 5000 {
		x := Round(n)
		if x%4 != 0 || x < n || x-4 >= n {
			t.Errorf("Round(%d) = %d", n, x)
		}
	}
}

func TestRoundAnswersZeroOutside(t *testing.T) {
	for _, n := range []int{
		-1, -2, -3, -4, -5, -8, -1 << 31, -1<<31 - 1, math.MinInt, math.MinInt + 1,
		1<<31 + 1, 1<<31 + 3, 1<<31 + 4, 1 << 32, 1<<32 + 5, math.MaxInt - 3, math.MaxInt,
	} {
		if x := Round(n); x != 0 {
			t.Errorf("Round(%d) = %d; want 0", n, x)
		}
	}
}

func TestFill(t *testing.T) {
	for _, c := range []struct{ b, want []byte }{
		{nil, nil},
		{[]byte{}, nil},
		{[]byte{0}, []byte{0, 0, 0, 0}},
		{[]byte{1}, []byte{1, 0, 0, 0}},
		{[]byte{1, 2}, []byte{1, 2, 0, 0}},
		{[]byte{1, 2, 3}, []byte{1, 2, 3, 0}},
		{[]byte{1, 2, 3, 4}, []byte{1, 2, 3, 4}},
		{[]byte{1, 2, 3, 4, 5}, []byte{1, 2, 3, 4, 5, 0, 0, 0}},
		{[]byte{0, 0, 0, 0}, []byte{0, 0, 0, 0}},
	} {
		if x := Fill(c.b); !bytes.Equal(x, c.want) {
			t.Errorf("Fill(%v) = %v; want %v", c.b, x, c.want)
		}
	}
}

func TestFillOfAnyLength(t *testing.T) {
	for n := range 600 {
		b := counted(n)
		many := 0
		for (n+many)%4 != 0 {
			many++
		}
		x := Fill(b)
		if !bytes.Equal(x, behind(b, 0, many)) || len(x) != Round(n) {
			t.Errorf("Fill of %d bytes = %v", n, x)
		}
		if y := Fill(x); !bytes.Equal(y, x) {
			t.Errorf("Fill of %d bytes twice = %v", n, y)
		}
	}
}

func TestFillOfManyBytes(t *testing.T) {
	for _, n := range []int{65535, 65536, 1<<20 + 1} {
		b := counted(n)
		x := Fill(b)
		if len(x) != Round(n) || !bytes.Equal(x[:n], b) || !Zero(x[n:]) {
			t.Errorf("Fill of %d bytes has %d", n, len(x))
		}
	}
}

func TestZero(t *testing.T) {
	for _, b := range [][]byte{nil, {}, {0}, {0, 0}, make([]byte, 1000)} {
		if !Zero(b) {
			t.Errorf("Zero(%v) is false", b)
		}
	}
	for _, b := range [][]byte{{1}, {128}, {255}, {255, 1}, {128, 128}} {
		if Zero(b) {
			t.Errorf("Zero(%v) is true", b)
		}
	}
}

func TestZeroLooksAtEveryBit(t *testing.T) {
	b := make([]byte, 40)
	for i := range b {
		for bit := range 8 {
			b[i] = 1 << bit
			if Zero(b) {
				t.Errorf("Zero(%v) is true", b)
			}
		}
		b[i] = 0
	}
	if !Zero(b) {
		t.Error("Zero of 40 bytes 0 is false")
	}
}

// P3.2

// trailers are bytes with how many their trailer has (0: it has none), and whether it is clean.
var trailers = []struct {
	b     []byte
	n     int
	clean bool
}{
	{[]byte{1}, 1, true},
	{[]byte{9, 1}, 1, true},
	{[]byte{0, 1}, 1, true},
	{[]byte{0, 2}, 2, true},
	{[]byte{1, 2}, 2, false},
	{[]byte{9, 0, 2}, 2, true},
	{[]byte{0, 9, 2}, 2, false},
	{[]byte{1, 2, 0, 0, 3}, 3, true},
	{[]byte{1, 2, 0, 1, 3}, 3, false},
	{[]byte{1, 2, 128, 0, 3}, 3, false},
	{[]byte{0, 0, 3}, 3, true},
	{[]byte{1, 0, 3}, 3, false},
	{[]byte{7, 7, 7, 7, 4}, 4, false},
	{behind(nil, 0, 254, 255), 255, true},
	{behind([]byte{5}, 0, 254, 255), 255, true},
	{behind(nil, 0, 255, 255), 255, true},
	{behind([]byte{1}, 0, 253, 255), 255, false},
	{behind([]byte{5, 1}, 0, 253, 255), 255, false},
	{behind(nil, 255, 255), 255, false},
	{behind(nil, 255, 1000), 255, false},
	{behind(nil, 0, 253, 254), 254, true},
	{behind(nil, 0, 127, 128), 128, true},
	{nil, 0, false},
	{[]byte{}, 0, false},
	{[]byte{0}, 0, false},
	{[]byte{0, 0, 0, 0}, 0, false},
	{[]byte{1, 1, 0}, 0, false},
	{[]byte{2}, 0, false},
	{[]byte{255}, 0, false},
	{[]byte{0, 3}, 0, false},
	{[]byte{0, 0, 0, 5}, 0, false},
	{[]byte{0, 0, 0, 255}, 0, false},
	{behind(nil, 0, 253, 255), 0, false},
	{behind(nil, 0, 126, 128), 0, false},
	{behind(nil, 255, 254), 0, false},
}

func TestTrail(t *testing.T) {
	for _, c := range trailers {
		want := api.OK
		if c.n == 0 {
			want = api.ErrPadding
		}
		if n, err := Trail(c.b); n != c.n || err != want {
			t.Errorf("Trail(%v) = %d, %d; want %d, %d", c.b, n, err, c.n, want)
		}
	}
}

func TestTrailOfEveryLastByte(t *testing.T) {
	for size := 1; size <= 260; size++ {
		b := make([]byte, size)
		for last := range 256 {
			b[size-1] = byte(last)
			n, err := Trail(b)
			has := last >= 1 && last <= size
			if has && (n != last || err != api.OK) || !has && (n != 0 || err != api.ErrPadding) {
				t.Fatalf("Trail of %d bytes, the last one %d: %d, %d", size, last, n, err)
			}
			if Clean(b) != has {
				t.Fatalf("Clean of %d bytes, the last one %d: %v", size, last, !has)
			}
		}
	}
}

func TestClean(t *testing.T) {
	for _, c := range trailers {
		if Clean(c.b) != c.clean {
			t.Errorf("Clean(%v) = %v", c.b, !c.clean)
		}
	}
}

// Each byte of a trailer counts, and none ahead of it.
func TestCleanLooksAtTheTrailerAlone(t *testing.T) {
	for n := 1; n <= 255; n++ {
		b := behind([]byte{7, 8}, 0, n-1, byte(n))
		if !Clean(b) {
			t.Errorf("a clean trailer of %d bytes isn't", n)
		}
		for i := 2; i < len(b)-1; i++ {
			b[i] = 1
			if Clean(b) {
				t.Errorf("a trailer of %d bytes with 1 at %d is clean", n, i)
			}
			b[i] = 0
		}
	}
}

func TestAdd(t *testing.T) {
	for _, c := range []struct {
		b    []byte
		n    int
		want []byte
	}{
		{nil, 1, []byte{1}},
		{[]byte{}, 2, []byte{0, 2}},
		{[]byte{1, 2}, 3, []byte{1, 2, 0, 0, 3}},
		{[]byte{9}, 1, []byte{9, 1}},
		{[]byte{9, 0, 2}, 4, []byte{9, 0, 2, 0, 0, 0, 4}},
		{nil, 254, behind(nil, 0, 253, 254)},
		{nil, 255, behind(nil, 0, 254, 255)},
		{[]byte{9}, 255, behind([]byte{9}, 0, 254, 255)},
	} {
		if x, err := Add(c.b, c.n); !bytes.Equal(x, c.want) || err != api.OK {
			t.Errorf("Add(%v, %d) = %v, %d; want %v", c.b, c.n, x, err, c.want)
		}
	}
}

func TestAddRefuses(t *testing.T) {
	for _, b := range [][]byte{nil, {}, {1, 2}, {0, 0, 3}} {
		for _, n := range []int{0, -1, -255, -256, 256, 257, 511, 512, 1<<32 + 1, math.MinInt, math.MinInt + 1, math.MaxInt} {
			if x, err := Add(b, n); x != nil || err != api.ErrArg {
				t.Errorf("Add(%v, %d) = %v, %d; want none, ErrArg", b, n, x, err)
			}
		}
	}
}

func TestWhatIsAddedIsFound(t *testing.T) {
	r := rand.New(rand.NewSource(3))
	for n := 1; n <= 255; n++ {
		b := make([]byte, r.Intn(300))
		r.Read(b)
		x, err := Add(b, n)
		if err != api.OK || len(x) != len(b)+n || !bytes.Equal(x[:len(b)], b) || !Clean(x) {
			t.Fatalf("Add(%v, %d) = %v, %d", b, n, x, err)
		}
		if m, err := Trail(x); m != n || err != api.OK {
			t.Fatalf("Trail(%v) = %d, %d; want %d", x, m, err, n)
		}
	}
}

// A clean trailer is just what Add writes.
func TestCleanBytesAreThoseThatAreAdded(t *testing.T) {
	r := rand.New(rand.NewSource(4))
	clean := 0
	for range 20000 {
		b := make([]byte, r.Intn(6))
		for i := range b {
			b[i] = byte(max(0, r.Intn(9)-3))
		}
		n, err := Trail(b)
		if err != api.OK {
			if Clean(b) {
				t.Fatalf("Clean(%v), though it has no trailer", b)
			}
			continue
		}
		x, err := Add(b[:len(b)-n], n)
		if err != api.OK || Clean(b) != bytes.Equal(x, b) {
			t.Fatalf("Clean(%v) = %v; Add wrote %v, %d", b, Clean(b), x, err)
		}
		if Clean(b) {
			clean++
		}
	}
	if clean == 0 {
		t.Error("no trailer was clean")
	}
}

// Rule 3: what is handed in is neither changed nor kept, its spare room neither, and doesn't get into an answer.
func TestAnswersAreNewMemory(t *testing.T) {
	room := []byte{0, 5, 0, 2, 9, 9, 9, 9, 9, 9, 9, 9}
	before := bytes.Clone(room)
	for size := range 5 {
		b := room[:size]
		filled, more := Fill(b), behind(before[:size], 0, (4-size%4)%4)
		added, err := Add(b, 3)
		if !bytes.Equal(filled, more) || !bytes.Equal(added, behind(before[:size], 0, 2, 3)) || err != api.OK {
			t.Errorf("of %d bytes: %v, %v, %d", size, filled, added, err)
		}
		Zero(b)
		Trail(b)
		Clean(b)
		for _, x := range [][]byte{filled, added} {
			x = append(x, 5)
			for i := range x {
				x[i] = 77
			}
		}
		if !bytes.Equal(room, before) {
			t.Fatalf("%v was changed to %v", before, room)
		}
	}
}

func TestSpareRoomIsNoBytes(t *testing.T) {
	room := []byte{0, 0, 3, 0, 1}
	if n, err := Trail(room[:2]); n != 0 || err != api.ErrPadding {
		t.Error(n, err)
	}
	if !Zero(room[:2]) || Clean(room[:2]) || !Clean(room[:3]) || Clean(room[:4]) {
		t.Error("spare room is looked at")
	}
}
