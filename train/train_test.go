package train

import (
	"bytes"
	"math"
	"math/rand"
	"slices"
	"testing"

	"crossbar/api"
)

// opened is what is told of a car.
type opened struct {
	c    api.Common
	body []byte
	n    int
	err  api.Errno
}

// told answers the bytes of a car, byte by byte, as the chapter puts them.
func told(kind, count int, body []byte, trail int) []byte {
	first := 128 + count
	if trail > 0 {
		first += 32
	}
	words := (len(body) + trail) / 4
	out := []byte{byte(first), byte(kind), byte(words / 256), byte(words % 256)}
	out = append(out, body...)
	if trail == 0 {
		return out
	}
	for range trail - 1 {
		out = append(out, 0)
	}
	return append(out, byte(trail))
}

// heard answers what is told of b, byte by byte, as the chapter puts it.
func heard(b []byte) opened {
	if len(b) < 4 {
		return opened{err: api.ErrShort}
	}
	if b[0]/64 != 2 {
		return opened{err: api.ErrVersion}
	}
	size := (256*int(b[2]) + int(b[3]) + 1) * 4
	if size != len(b) {
		return opened{err: api.ErrLength}
	}
	x := opened{c: api.Common{Count: int(b[0] % 32), Type: int(b[1]), Size: size}}
	if b[0]/32%2 == 0 {
		x.body = b[4:]
		return x
	}
	x.c.Pad = true
	x.n = int(b[size-1])
	if size == 4 || x.n == 0 || x.n > size-4 || x.n%4 > 0 {
		return opened{err: api.ErrPadding}
	}
	x.body = b[4 : size-x.n]
	return x
}

// parted answers what b is split to, car by car, as the chapter puts it.
func parted(b []byte) ([][]byte, api.Errno) {
	var cars [][]byte
	for at := 0; at == 0 || at < len(b); {
		rest := b[at:]
		if len(rest) < 4 {
			return nil, api.ErrShort
		}
		size := (256*int(rest[2]) + int(rest[3]) + 1) * 4
		// A car that is cut off, or of another version, is told of by the bytes that there are.
		if x := heard(rest[:min(size, len(rest))]); x.err != api.OK {
			return nil, x.err
		}
		at += size
		if rest[0]/32%2 == 1 && at < len(b) {
			return nil, api.ErrPadding
		}
		cars = append(cars, rest[:size])
	}
	return cars, api.OK
}

// joined answers the bytes of all lists.
func joined(l ...[]byte) []byte {
	return slices.Concat(l...)
}

// some answers n bytes, none of which is 0.
func some(n int) []byte {
	out := make([]byte, n)
	for i := range out {
		out[i] = byte(1 + i%255)
	}
	return out
}

// head answers the first few bytes of b, so that what is told of a failure stays short.
func head(b []byte) []byte {
	return b[:min(len(b), 24)]
}

// checkOpen holds what is told of b against want.
func checkOpen(t *testing.T, b []byte, want opened) {
	t.Helper()
	c, body, n, err := Open(b)
	if c != want.c || !bytes.Equal(body, want.body) || n != want.n || err != want.err {
		t.Errorf("Open(%v.., %d bytes) = %v, %v.., %d, %d; want %v, %v.., %d, %d", head(b), len(b),
			c, head(body), n, err, want.c, head(want.body), want.n, want.err)
	}
	if err != api.OK && body != nil {
		t.Errorf("Open(%v.., %d bytes) answers a body beside an error", head(b), len(b))
	}
}

// checkClose holds the car that is made of a body and a trailer against want; none stands for ErrArg.
func checkClose(t *testing.T, kind, count int, body []byte, trail int, want []byte) {
	t.Helper()
	b, err := Close(kind, count, body, trail)
	switch {
	case want == nil && (b != nil || err != api.ErrArg):
		t.Errorf("Close(%d, %d, %d bytes, %d) = %v.., %d; want none, ErrArg", kind, count, len(body), trail, head(b), err)
	case want != nil && (!bytes.Equal(b, want) || err != api.OK):
		t.Errorf("Close(%d, %d, %d bytes, %d) = %v.., %d; want %v..", kind, count, len(body), trail, head(b), err, head(want))
	}
}

// checkSplit holds the cars of b against want.
func checkSplit(t *testing.T, b []byte, want [][]byte, fault api.Errno) {
	t.Helper()
	cars, err := Split(b)
	if !slices.EqualFunc(cars, want, bytes.Equal) || err != fault {
		t.Errorf("Split(%v.., %d bytes) has %d cars, %d; want %d, %d", head(b), len(b), len(cars), err, len(want), fault)
	}
	if err != api.OK && cars != nil {
		t.Errorf("Split(%v.., %d bytes) answers cars beside an error", head(b), len(b))
	}
}

// wrongCars are bytes that are no car, with their faults, which are the same at the end of a train.
var wrongCars = []struct {
	b   []byte
	err api.Errno
}{
	{[]byte{128}, api.ErrShort},
	{[]byte{0}, api.ErrShort},
	{[]byte{128, 200, 0}, api.ErrShort},
	{[]byte{160, 200, 255}, api.ErrShort},
	{[]byte{0, 0, 0, 0}, api.ErrVersion},
	{[]byte{64, 200, 0, 0}, api.ErrVersion},
	{[]byte{127, 200, 0, 0}, api.ErrVersion},
	{[]byte{192, 200, 0, 0}, api.ErrVersion},
	{[]byte{255, 255, 255, 255}, api.ErrVersion},
	{[]byte{96, 200, 0, 1, 0, 0, 0, 0}, api.ErrVersion},
	{[]byte{128, 200, 0, 1}, api.ErrLength},
	{[]byte{128, 200, 0, 1, 5, 6, 7}, api.ErrLength},
	{[]byte{128, 200, 255, 255, 5, 6, 7, 8}, api.ErrLength},
	{[]byte{160, 200, 0, 2, 5, 6, 7, 0}, api.ErrLength},
	{[]byte{160, 200, 0, 2, 5, 6, 7, 4}, api.ErrLength},
	{[]byte{160, 200, 0, 0}, api.ErrPadding},
	{[]byte{160, 4, 0, 0}, api.ErrPadding},
	{[]byte{160, 200, 0, 1, 0, 0, 0, 0}, api.ErrPadding},
	{[]byte{160, 200, 0, 1, 0, 0, 0, 1}, api.ErrPadding},
	{[]byte{160, 200, 0, 1, 0, 0, 0, 2}, api.ErrPadding},
	{[]byte{160, 200, 0, 1, 0, 0, 0, 3}, api.ErrPadding},
	{[]byte{160, 200, 0, 1, 0, 0, 0, 5}, api.ErrPadding},
	{[]byte{160, 200, 0, 1, 0, 0, 0, 8}, api.ErrPadding},
	{[]byte{160, 200, 0, 1, 0, 0, 0, 252}, api.ErrPadding},
	{[]byte{160, 200, 0, 1, 0, 0, 0, 255}, api.ErrPadding},
	{[]byte{160, 200, 0, 2, 0, 0, 0, 0, 0, 0, 0, 6}, api.ErrPadding},
	{[]byte{160, 200, 0, 2, 0, 0, 0, 0, 0, 0, 0, 7}, api.ErrPadding},
	{[]byte{160, 200, 0, 2, 0, 0, 0, 4, 0, 0, 0, 12}, api.ErrPadding},
	{[]byte{191, 255, 0, 2, 0, 0, 0, 4, 0, 0, 0, 0}, api.ErrPadding},
}

// P11.1

func TestOpen(t *testing.T) {
	for _, x := range []struct {
		b    []byte
		want opened
	}{
		{[]byte{128, 0, 0, 0}, opened{c: api.Common{Size: 4}}},
		{[]byte{159, 255, 0, 0}, opened{c: api.Common{Count: 31, Type: 255, Size: 4}}},
		{[]byte{129, 200, 0, 1, 5, 6, 7, 8}, opened{api.Common{Count: 1, Type: 200, Size: 8}, []byte{5, 6, 7, 8}, 0, api.OK}},
		// Without Pad the last byte is one of the body's, whatever it says.
		{[]byte{128, 200, 0, 1, 0, 0, 0, 4}, opened{api.Common{Type: 200, Size: 8}, []byte{0, 0, 0, 4}, 0, api.OK}},
		{[]byte{128, 200, 0, 1, 0, 0, 0, 3}, opened{api.Common{Type: 200, Size: 8}, []byte{0, 0, 0, 3}, 0, api.OK}},
		// A trailer that fills all that is behind the header.
		{[]byte{160, 203, 0, 1, 0, 0, 0, 4}, opened{api.Common{Pad: true, Type: 203, Size: 8}, nil, 4, api.OK}},
		{[]byte{160, 203, 0, 2, 0, 0, 0, 0, 0, 0, 0, 8}, opened{api.Common{Pad: true, Type: 203, Size: 12}, nil, 8, api.OK}},
		// One whose noughts are others.
		{[]byte{160, 203, 0, 1, 9, 8, 7, 4}, opened{api.Common{Pad: true, Type: 203, Size: 8}, nil, 4, api.OK}},
		{[]byte{165, 204, 0, 3, 1, 2, 3, 4, 255, 255, 255, 255, 255, 255, 255, 8},
			opened{api.Common{Pad: true, Count: 5, Type: 204, Size: 16}, []byte{1, 2, 3, 4}, 8, api.OK}},
		{[]byte{165, 204, 0, 3, 1, 2, 3, 4, 5, 6, 7, 8, 0, 0, 0, 4},
			opened{api.Common{Pad: true, Count: 5, Type: 204, Size: 16}, []byte{1, 2, 3, 4, 5, 6, 7, 8}, 4, api.OK}},
	} {
		checkOpen(t, x.b, x.want)
	}
}

func TestOpenOfWhatIsNoCar(t *testing.T) {
	checkOpen(t, nil, opened{err: api.ErrShort})
	checkOpen(t, []byte{}, opened{err: api.ErrShort})
	for _, x := range wrongCars {
		checkOpen(t, x.b, opened{err: x.err})
	}
}

// A Size that is more than there is, and one that is less, are the same error, ahead of a wrong trailer.
func TestOpenByHowManyBytesThereAre(t *testing.T) {
	for _, trail := range []int{0, 4, 8} {
		for _, size := range []int{0, 4, 8, 1024} {
			car := told(200, 1, some(size), trail)
			room := joined(car, []byte{0, 0, 0, 4, 128, 200, 0, 0})
			for n := range room {
				want := opened{err: api.ErrLength}
				if n < 4 {
					want.err = api.ErrShort
				}
				if n == len(car) {
					want = opened{api.Common{Pad: trail > 0, Count: 1, Type: 200, Size: n}, some(size), trail, api.OK}
				}
				checkOpen(t, room[:n], want)
			}
		}
	}
}

func TestOpenTellsTheFirstFault(t *testing.T) {
	for _, x := range []struct {
		b    []byte
		want api.Errno
	}{
		{[]byte{0, 200, 9}, api.ErrShort},
		{[]byte{96, 200, 9, 9}, api.ErrVersion},
		{[]byte{96, 200, 0, 0, 0, 0, 0, 0}, api.ErrVersion},
		{[]byte{96, 200, 0, 1, 0, 0, 0, 3}, api.ErrVersion},
		{[]byte{160, 200, 0, 1, 0, 0, 0, 3, 3}, api.ErrLength},
		{[]byte{160, 200, 0, 0, 0, 0, 0, 3}, api.ErrLength},
		{[]byte{160, 200, 0, 0, 0, 0, 0, 4}, api.ErrLength},
		{[]byte{160, 200, 0, 2, 0, 0, 0, 3}, api.ErrLength},
	} {
		checkOpen(t, x.b, opened{err: x.want})
	}
}

// Whatever the last byte says, in cars of every size about it.
func TestOpenOfEveryTrailer(t *testing.T) {
	for size := 0; size <= 268; size += 4 {
		for last := range 256 {
			b := told(206, 15, some(size), 0)
			b[0] |= 32
			if size > 0 {
				b[len(b)-1] = byte(last)
			}
			want := opened{err: api.ErrPadding}
			if last > 0 && last <= size && last&3 == 0 {
				want = opened{api.Common{Pad: true, Count: 15, Type: 206, Size: size + 4}, some(size)[:size-last], last, api.OK}
			}
			checkOpen(t, b, want)
		}
	}
}

func TestOpenOfEveryFirstByte(t *testing.T) {
	for first := range 256 {
		for second := range 256 {
			for _, last := range []byte{0, 3, 4, 8, 12} {
				b := []byte{byte(first), byte(second), 0, 2, 1, 2, 3, 4, 5, 6, 7, last}
				checkOpen(t, b, heard(b))
			}
		}
	}
}

func TestSpareRoomIsNoBytes(t *testing.T) {
	room := told(200, 0, some(8), 0)
	checkOpen(t, room[:8], opened{err: api.ErrLength})
	checkOpen(t, room[:3], opened{err: api.ErrShort})
	checkSplit(t, room[:8], nil, api.ErrLength)
	checkSplit(t, room[:0], nil, api.ErrShort)
}

// P11.2

func TestClose(t *testing.T) {
	for _, x := range []struct {
		kind, count int
		body        []byte
		trail       int
		want        []byte
	}{
		{0, 0, nil, 0, []byte{128, 0, 0, 0}},
		{0, 0, []byte{}, 0, []byte{128, 0, 0, 0}},
		{255, 31, nil, 0, []byte{159, 255, 0, 0}},
		{200, 1, []byte{5, 6, 7, 8}, 0, []byte{129, 200, 0, 1, 5, 6, 7, 8}},
		{203, 0, nil, 4, []byte{160, 203, 0, 1, 0, 0, 0, 4}},
		{204, 5, []byte("abcdefgh"), 8, []byte("\xa5\xcc\x00\x04abcdefgh\x00\x00\x00\x00\x00\x00\x00\x08")},
		{255, 31, []byte{0, 0, 0, 0}, 4, []byte{191, 255, 0, 2, 0, 0, 0, 0, 0, 0, 0, 4}},
	} {
		checkClose(t, x.kind, x.count, x.body, x.trail, x.want)
	}
}

func TestCloseWithTrailers(t *testing.T) {
	for trail := -300; trail <= 600; trail++ {
		for _, size := range []int{0, 4, 8} {
			var want []byte
			if trail >= 0 && trail <= 252 && trail&3 == 0 {
				want = told(205, 1, some(size), trail)
			}
			checkClose(t, 205, 1, some(size), trail, want)
		}
	}
	for _, trail := range []int{math.MinInt, math.MinInt + 4, -1 << 32, -4, 256, 1 << 31, 1 << 32, 1<<32 + 4, math.MaxInt, math.MaxInt - 3} {
		checkClose(t, 205, 1, nil, trail, nil)
		checkClose(t, 205, 1, some(4), trail, nil)
	}
}

// What the body misses to whole words, the trailer doesn't make up for.
func TestCloseOfBodies(t *testing.T) {
	for size := range 70 {
		for trail := range 13 {
			var want []byte
			if size&3 == 0 && trail&3 == 0 {
				want = told(201, 2, some(size), trail)
			}
			checkClose(t, 201, 2, some(size), trail, want)
		}
	}
}

func TestCloseOfTypesAndCounts(t *testing.T) {
	for kind := -260; kind <= 520; kind++ {
		for count := -40; count <= 70; count++ {
			var want []byte
			if kind >= 0 && kind <= 255 && count >= 0 && count <= 31 {
				want = told(kind, count, some(4), 4)
			}
			checkClose(t, kind, count, some(4), 4, want)
		}
	}
	for _, x := range []int{math.MinInt, -1 << 32, 1 << 32, math.MaxInt} {
		checkClose(t, x, 0, nil, 0, nil)
		checkClose(t, 0, x, nil, 0, nil)
		checkClose(t, x, x, some(3), x, nil)
	}
}

// The greatest car has 262144 bytes, its trailer among them.
func TestCloseOfTheGreatestCar(t *testing.T) {
	body := some(262400)
	for _, trail := range []int{0, 4, 8, 248, 252} {
		for size := 262144 - 260; size <= 262144+8; size++ {
			var want []byte
			if size&3 == 0 && size+trail <= 262140 {
				want = told(204, 31, body[:size], trail)
			}
			checkClose(t, 204, 31, body[:size], trail, want)
		}
	}
}

// P11.3

func TestSplitOfTheExamples(t *testing.T) {
	long, short := told(200, 0, some(4), 0), told(203, 0, nil, 0)
	checkSplit(t, joined(long, short), [][]byte{long, short}, api.OK)
	padded := told(200, 0, nil, 4)
	checkSplit(t, joined(padded, short), nil, api.ErrPadding)
	checkSplit(t, padded, [][]byte{padded}, api.OK)
}

func TestSplitOfNoBytes(t *testing.T) {
	checkSplit(t, nil, nil, api.ErrShort)
	checkSplit(t, []byte{}, nil, api.ErrShort)
}

// A fault is told wherever its car stands, if it is the last one.
func TestSplitOfWrongCars(t *testing.T) {
	for _, x := range wrongCars {
		checkSplit(t, x.b, nil, x.err)
		before := []byte{}
		for i := range 4 {
			before = joined(before, told(200+i, i, some(4*i), 0))
			checkSplit(t, joined(before, x.b), nil, x.err)
		}
	}
}

// A car that has a trailer is a fault just where bytes are behind it, and be it one that is no car.
func TestSplitOfATrailerThatIsNotAtTheEnd(t *testing.T) {
	plain := told(201, 1, some(8), 0)
	for _, trail := range []int{4, 8, 252} {
		padded := told(203, 1, some(4), trail)
		checkSplit(t, padded, [][]byte{padded}, api.OK)
		checkSplit(t, joined(plain, padded), [][]byte{plain, padded}, api.OK)
		checkSplit(t, joined(plain, plain, padded), [][]byte{plain, plain, padded}, api.OK)
		for _, behind := range [][]byte{plain, padded, {0}, {128}, {0, 0, 0}, {0, 0, 0, 0}, {128, 200, 0, 9}} {
			checkSplit(t, joined(padded, behind), nil, api.ErrPadding)
			checkSplit(t, joined(plain, padded, behind), nil, api.ErrPadding)
			checkSplit(t, joined(padded, behind, padded), nil, api.ErrPadding)
		}
	}
	// The four bytes behind it would be a trailer of both; the car itself has none.
	checkSplit(t, []byte{160, 200, 0, 0, 0, 0, 0, 4}, nil, api.ErrPadding)
}

// Of two faults the first one from the front is told; of two in one car the one that is named first.
func TestSplitTellsTheFirstFault(t *testing.T) {
	plain, padded := told(201, 1, some(8), 0), told(203, 1, nil, 4)
	version, length := []byte{64, 200, 0, 0}, []byte{128, 200, 0, 9, 1, 2, 3, 4}
	for _, x := range []struct {
		b    []byte
		want api.Errno
	}{
		{joined(version, padded, plain), api.ErrVersion},
		{joined(padded, version), api.ErrPadding},
		{joined(plain, version, padded, plain), api.ErrVersion},
		{joined(plain, padded, version), api.ErrPadding},
		{joined(plain, padded, length), api.ErrPadding},
		{joined(length, version), api.ErrLength},
		{joined(version, length), api.ErrVersion},
		{joined(plain, version, []byte{0}), api.ErrVersion},
		{joined(plain, length, []byte{0}), api.ErrLength},
		{[]byte{96, 200, 0, 9, 0, 0, 0, 3}, api.ErrVersion},
		{[]byte{160, 200, 0, 9, 0, 0, 0, 3}, api.ErrLength},
		{[]byte{32, 200, 0, 0, 128, 200, 0, 0}, api.ErrVersion},
		{[]byte{160, 200, 0, 1, 0, 0, 0, 3, 128, 200, 0, 0}, api.ErrPadding},
		{[]byte{160, 200, 0}, api.ErrShort},
	} {
		checkSplit(t, x.b, nil, x.want)
	}
}

// In a train a Size that is less than there is is no fault: the next car begins there.
func TestSplitWhereCarsBegin(t *testing.T) {
	b := []byte{128, 200, 0, 0, 128, 201, 0, 0, 128, 202, 0, 0}
	checkSplit(t, b, [][]byte{b[:4], b[4:8], b[8:]}, api.OK)
	b[3] = 1
	checkSplit(t, b, [][]byte{b[:8], b[8:]}, api.OK)
	b[3] = 2
	checkSplit(t, b, [][]byte{b}, api.OK)
	b[3] = 3
	checkSplit(t, b, nil, api.ErrLength)
	b[3], b[7] = 0, 1
	checkSplit(t, b, [][]byte{b[:4], b[4:]}, api.OK)
	b[7] = 2
	checkSplit(t, b, nil, api.ErrLength)
}

func TestSplitOfManyCars(t *testing.T) {
	for _, many := range []int{1, 2, 255, 256, 65536, 262144} {
		b := make([]byte, 0, 4*many)
		for i := range many {
			b = append(b, 128, byte(i), 0, 0)
		}
		cars, err := Split(b)
		if len(cars) != many || err != api.OK {
			t.Fatalf("Split of %d cars has %d, %d", many, len(cars), err)
		}
		for i, car := range cars {
			if !bytes.Equal(car, b[4*i:4*i+4]) {
				t.Fatalf("car %d of %d is %v", i, many, car)
			}
		}
		checkSplit(t, append(b, 128), nil, api.ErrShort)
	}
}

func TestSplitOfTheGreatestCars(t *testing.T) {
	plain, padded := told(204, 0, some(262140), 0), told(204, 0, some(262140-252), 252)
	small := told(203, 0, nil, 0)
	checkSplit(t, plain, [][]byte{plain}, api.OK)
	checkSplit(t, padded, [][]byte{padded}, api.OK)
	checkSplit(t, joined(plain, small, plain, padded), [][]byte{plain, small, plain, padded}, api.OK)
	checkSplit(t, joined(padded, small), nil, api.ErrPadding)
	checkSplit(t, plain[:262143], nil, api.ErrLength)
	checkSplit(t, joined(small, padded[:262143]), nil, api.ErrLength)
}

// P11.4

// chance answers a car that is closed of something, with a trailer or without.
func chance(t *testing.T, r *rand.Rand, padded bool) []byte {
	t.Helper()
	kind, count, body, trail := r.Intn(256), r.Intn(32), make([]byte, 4*r.Intn(1<<r.Intn(9))), 0
	r.Read(body)
	if padded {
		trail = 4 * (1 + r.Intn(63))
	}
	b, err := Close(kind, count, body, trail)
	if err != api.OK || !bytes.Equal(b, told(kind, count, body, trail)) {
		t.Fatalf("Close(%d, %d, %v, %d) = %v, %d", kind, count, body, trail, b, err)
	}
	checkOpen(t, b, opened{api.Common{Pad: padded, Count: count, Type: kind, Size: len(b)}, body, trail, api.OK})
	return b
}

func TestWhatWasClosedIsOpenedAsItWas(t *testing.T) {
	r := rand.New(rand.NewSource(11))
	for i := range 4000 {
		chance(t, r, i%2 == 0)
	}
}

func TestCarsThatAreJoinedAreSplitAsTheyWere(t *testing.T) {
	r := rand.New(rand.NewSource(12))
	for range 1000 {
		cars := make([][]byte, 1+r.Intn(12))
		for i := range cars {
			cars[i] = chance(t, r, i == len(cars)-1 && r.Intn(2) == 0)
		}
		checkSplit(t, joined(cars...), cars, api.OK)
	}
}

// What is split is opened car by car, and what is opened stands alone.
func TestEachCarOfATrainIsOne(t *testing.T) {
	r := rand.New(rand.NewSource(13))
	taken := 0
	for range 300000 {
		b := wild(r)
		cars, err := Split(b)
		want, fault := parted(b)
		checkSplit(t, b, want, fault)
		if err != api.OK {
			continue
		}
		taken++
		if !bytes.Equal(joined(cars...), b) {
			t.Fatalf("the cars of %v are %v", b, cars)
		}
		for i, car := range cars {
			checkOpen(t, car, heard(car))
			if c, _, _, err := Open(car); err != api.OK || c.Pad && i < len(cars)-1 {
				t.Fatalf("car %d of %v is %v, %d", i, b, c, err)
			}
		}
	}
	if taken < 10000 {
		t.Errorf("only %d trains were taken", taken)
	}
}

func TestAnyBytesAreOpenedOrRefused(t *testing.T) {
	r := rand.New(rand.NewSource(14))
	for range 300000 {
		b := wild(r)
		checkOpen(t, b, heard(b))
	}
}

// wild answers bytes that are often a train, or nearly one.
func wild(r *rand.Rand) []byte {
	b := []byte{}
	for range r.Intn(4) {
		size := 4 * r.Intn(4)
		car := told(r.Intn(256), r.Intn(32), make([]byte, size), 0)
		r.Read(car[4:])
		if r.Intn(4) == 0 {
			car[0] |= 32
			car[len(car)-1] = byte(r.Intn(4 + size))
		}
		if r.Intn(24) == 0 {
			car[r.Intn(4)] ^= 1 << r.Intn(8)
		}
		b = append(b, car...)
	}
	if r.Intn(8) == 0 {
		b = append(b, 128, 0, 0, 0)[:len(b)+r.Intn(4)]
	}
	return b
}

// Rule 3: what is handed in is neither changed nor kept, its spare room neither.

func TestTheBytesAreLeftAlone(t *testing.T) {
	room := joined(told(200, 1, some(8), 0), told(203, 1, some(4), 4), some(9))
	before := bytes.Clone(room)
	for n := range room {
		Split(room[:n])
		Open(room[:n])
		Close(200, 1, room[:n], 0)
		Close(200, 1, room[:n], 4)
		Close(200, 1, room[:n], 252)
	}
	if !bytes.Equal(room, before) {
		t.Errorf("%v was changed to %v", before, room)
	}
}

// overwrite changes all bytes of b, and those that it has room for.
func overwrite(b []byte) {
	b = b[:cap(b)]
	for i := range b {
		b[i] = 77
	}
}

func TestAnswersAreNewMemory(t *testing.T) {
	car := told(203, 1, some(8), 8)
	train := joined(told(200, 1, some(8), 0), told(201, 1, nil, 0), car)
	before := bytes.Clone(train)
	cars, _ := Split(train)
	overwrite(cars[1])
	overwrite(cars[0])
	if !bytes.Equal(cars[2], car) || !bytes.Equal(train, before) {
		t.Errorf("a car of %v shares its bytes", train)
	}
	overwrite(cars[2])
	_, body, _, _ := Open(car)
	overwrite(body)
	if !bytes.Equal(train, before) || !bytes.Equal(car, told(203, 1, some(8), 8)) {
		t.Errorf("an answer shares the bytes of %v or %v", train, car)
	}
	for _, trail := range []int{0, 8} {
		body := some(8)
		b, _ := Close(203, 1, body, trail)
		overwrite(b)
		if !bytes.Equal(body, some(8)) {
			t.Errorf("a car shares its body's bytes")
		}
		checkClose(t, 203, 1, body, trail, told(203, 1, body, trail))
	}
}
