package report

import (
	"bytes"
	"math"
	"math/big"
	"math/rand"
	"slices"
	"testing"

	"crossbar/api"
)

// digits answers the last n digits to the base 256 of v, the highest first; below 0 it is v and 256^n together.
func digits(v *big.Int, n int) []byte {
	all := new(big.Int).Lsh(big.NewInt(1), uint(8*n))
	v = new(big.Int).Set(v)
	if v.Sign() < 0 {
		v.Add(v, all)
	}
	return v.FillBytes(make([]byte, n))
}

// whole answers the n bytes of v.
func whole(v uint64, n int) []byte {
	return digits(new(big.Int).SetUint64(v), n)
}

// words answers the bytes of all numbers, four of each.
func words(l ...uint32) []byte {
	var out []byte
	for _, v := range l {
		out = append(out, whole(uint64(v), 4)...)
	}
	return out
}

// told answers the body of r, number by number, as the chapter puts them.
func told(r api.Report) []byte {
	out := words(r.Ssrc)
	if r.Sends {
		out = append(out, whole(r.Sender.Ntp, 8)...)
		out = append(out, words(r.Sender.Time, r.Sender.Packets, r.Sender.Octets)...)
	}
	for _, x := range r.Blocks {
		out = append(out, words(x.Ssrc)...)
		out = append(out, x.Fraction)
		out = append(out, digits(big.NewInt(int64(x.Lost)), 3)...)
		out = append(out, words(x.Highest, x.Jitter, x.Last, x.Delay)...)
	}
	return append(out, r.More...)
}

// valueOf answers the number that all of b are the digits of.
func valueOf(b []byte) uint64 {
	return new(big.Int).SetBytes(b).Uint64()
}

// wordAt answers the number of the four bytes of b from at on.
func wordAt(b []byte, at int) uint32 {
	return uint32(valueOf(b[at : at+4]))
}

// heard answers the report whose body is b, which has all its bytes, number by number as the chapter puts them.
func heard(sends bool, count int, b []byte) api.Report {
	r := api.Report{Ssrc: wordAt(b, 0), Sends: sends}
	b = b[4:]
	if sends {
		r.Sender = api.Sender{Ntp: valueOf(b[:8]), Time: wordAt(b, 8), Packets: wordAt(b, 12), Octets: wordAt(b, 16)}
		b = b[20:]
	}
	for i := range count {
		x := b[24*i:]
		lost := int(valueOf(x[5:8]))
		if lost >= 8388608 {
			lost -= 16777216
		}
		r.Blocks = append(r.Blocks, api.Block{Ssrc: wordAt(x, 0), Fraction: x[4], Lost: int32(lost),
			Highest: wordAt(x, 8), Jitter: wordAt(x, 12), Last: wordAt(x, 16), Delay: wordAt(x, 20)})
	}
	r.More = b[24*count:]
	return r
}

// least answers how many bytes the body has of such a report without More.
func least(sends bool, count int) int {
	if sends {
		return 24 + 24*count
	}
	return 4 + 24*count
}

// faultOf answers what is wrong with a body of n bytes.
func faultOf(sends bool, count, n int) api.Errno {
	switch {
	case count < 0 || count > 31:
		return api.ErrArg
	case n > 65528 || n&3 != 0:
		return api.ErrLength
	case n < least(sends, count):
		return api.ErrShort
	}
	return api.OK
}

// same tells whether two reports are.
func same(a, b api.Report) bool {
	return a.Ssrc == b.Ssrc && a.Sends == b.Sends && a.Sender == b.Sender &&
		slices.Equal(a.Blocks, b.Blocks) && bytes.Equal(a.More, b.More)
}

// head answers the first few bytes of b, so that what is told of a failure stays short.
func head(b []byte) []byte {
	return b[:min(len(b), 60)]
}

// some answers n bytes, none of which is 0.
func some(n int) []byte {
	out := make([]byte, n)
	for i := range out {
		out[i] = byte(1 + i%255)
	}
	return out
}

// many answers n blocks, no two of which are the same.
func many(n int) []api.Block {
	var l []api.Block
	for i := range n {
		v := uint32(i + 1)
		l = append(l, api.Block{Ssrc: v, Fraction: uint8(200 + v), Lost: int32(-100 - i),
			Highest: v << 8, Jitter: v << 16, Last: v << 24, Delay: ^v})
	}
	return l
}

// checkRight holds whether r is right, and what is written of it, against right.
func checkRight(t *testing.T, r api.Report, right bool) {
	t.Helper()
	if got := Right(r); got != right {
		t.Errorf("Right(%v.., %d blocks, %d bytes more) = %v", r.Ssrc, len(r.Blocks), len(r.More), got)
	}
	b, err := Write(r)
	if right && (err != api.OK || !bytes.Equal(b, told(r))) {
		t.Errorf("Write(%v, %v, %v, %d blocks, %d bytes more) = %v.., %d; want %v..", r.Ssrc, r.Sends, r.Sender,
			len(r.Blocks), len(r.More), head(b), err, head(told(r)))
	}
	if !right && (err != api.ErrArg || b != nil) {
		t.Errorf("Write(%v, %v, %v, %d blocks, %d bytes more) = %v.., %d; want none, ErrArg", r.Ssrc, r.Sends, r.Sender,
			len(r.Blocks), len(r.More), head(b), err)
	}
}

// checkRead holds what is read of b against what the chapter says.
func checkRead(t *testing.T, sends bool, count int, b []byte) {
	t.Helper()
	fault := faultOf(sends, count, len(b))
	want := api.Report{}
	if fault == api.OK {
		want = heard(sends, count, b)
	}
	r, err := Read(sends, count, b)
	if err != fault || !same(r, want) {
		t.Errorf("Read(%v, %d, %v.., %d bytes) = %v, %d; want %v, %d", sends, count, head(b), len(b), r, err, want, fault)
	}
	if err != api.OK && (r.Blocks != nil || r.More != nil) {
		t.Errorf("Read(%v, %d, %d bytes) answers a list beside an error", sends, count, len(b))
	}
}

// checkBack holds what is read of r's body against r.
func checkBack(t *testing.T, r api.Report) {
	t.Helper()
	b, err := Write(r)
	if err != api.OK {
		t.Errorf("%v isn't written: %d", r, err)
		return
	}
	back, err := Read(r.Sends, len(r.Blocks), b)
	if err != api.OK || !same(back, r) {
		t.Errorf("of %v there is read %v, %d", r, back, err)
	}
}

// P12.1

func TestWrite(t *testing.T) {
	sender := api.Sender{Ntp: 0x0102030405060708, Time: 0x090A0B0C, Packets: 0x0D0E0F10, Octets: 0x11121314}
	block := api.Block{Ssrc: 0x21222324, Fraction: 0x25, Lost: 0x262728, Highest: 0x292A2B2C,
		Jitter: 0x2D2E2F30, Last: 0x31323334, Delay: 0x35363738}
	for _, x := range []struct {
		r    api.Report
		want string
	}{
		{api.Report{}, "\x00\x00\x00\x00"},
		{api.Report{Ssrc: 0xFEDCBA98}, "\xFE\xDC\xBA\x98"},
		{api.Report{Ssrc: 1, More: []byte("more")}, "\x00\x00\x00\x01more"},
		{api.Report{Ssrc: 0xF1F2F3F4, Sends: true, Sender: sender}, "\xF1\xF2\xF3\xF4\x01\x02\x03\x04\x05\x06\x07\x08\x09\x0A\x0B\x0C\x0D\x0E\x0F\x10\x11\x12\x13\x14"},
		{api.Report{Blocks: []api.Block{block}}, "\x00\x00\x00\x00\x21\x22\x23\x24\x25\x26\x27\x28\x29\x2A\x2B\x2C\x2D\x2E\x2F\x30\x31\x32\x33\x34\x35\x36\x37\x38"},
		{api.Report{Sends: true, Blocks: []api.Block{{Lost: -1}, {Ssrc: 1}}, More: []byte{9, 8, 7, 6}},
			"\x00\x00\x00\x00" + "\x00\x00\x00\x00\x00\x00\x00\x00\x00\x00\x00\x00\x00\x00\x00\x00\x00\x00\x00\x00" +
				"\x00\x00\x00\x00\x00\xFF\xFF\xFF\x00\x00\x00\x00\x00\x00\x00\x00\x00\x00\x00\x00\x00\x00\x00\x00" +
				"\x00\x00\x00\x01\x00\x00\x00\x00\x00\x00\x00\x00\x00\x00\x00\x00\x00\x00\x00\x00\x00\x00\x00\x00" +
				"\x09\x08\x07\x06"},
	} {
		b, err := Write(x.r)
		if string(b) != x.want || err != api.OK {
			t.Errorf("Write(%v) = %x, %d; want %x", x.r, b, err, x.want)
		}
		checkRight(t, x.r, true)
	}
}

func TestBlocksAreAtMost31(t *testing.T) {
	for n := range 70 {
		checkRight(t, api.Report{Ssrc: 5, Blocks: many(n)}, n <= 31)
		checkRight(t, api.Report{Ssrc: 5, Sends: true, Blocks: many(n), More: some(4)}, n <= 31)
	}
	checkRight(t, api.Report{Blocks: []api.Block{}}, true)
	checkRight(t, api.Report{Blocks: make([]api.Block, 100000)}, false)
}

// What a block says was lost has 24 bits, wherever the block is.
func TestLostHas24Bits(t *testing.T) {
	for _, x := range []struct {
		lost  int32
		right bool
	}{
		{math.MinInt32, false}, {-1 << 24, false}, {-1<<23 - 2, false}, {-1<<23 - 1, false},
		{-1 << 23, true}, {-1<<23 + 1, true}, {-65537, true}, {-256, true}, {-1, true},
		{0, true}, {1, true}, {255, true}, {65536, true}, {1<<23 - 2, true}, {1<<23 - 1, true},
		{1 << 23, false}, {1<<23 + 1, false}, {1<<24 - 1, false}, {1 << 24, false}, {math.MaxInt32, false},
	} {
		for _, n := range []int{1, 2, 31} {
			for at := range n {
				l := many(n)
				l[at].Lost = x.lost
				checkRight(t, api.Report{Blocks: l}, x.right)
				checkRight(t, api.Report{Sends: true, Blocks: l}, x.right)
			}
		}
	}
}

// Each field of a sender makes it another one than the zero one.
func TestWhoDoesNotSendHasNoSender(t *testing.T) {
	checkRight(t, api.Report{}, true)
	checkRight(t, api.Report{Sends: true}, true)
	for _, s := range []api.Sender{
		{Ntp: 1}, {Ntp: 1 << 63}, {Ntp: 1 << 32}, {Ntp: math.MaxUint64},
		{Time: 1}, {Time: math.MaxUint32}, {Packets: 1}, {Packets: math.MaxUint32}, {Octets: 1}, {Octets: math.MaxUint32},
		{Ntp: 1, Time: 2, Packets: 3, Octets: 4},
		{Ntp: math.MaxUint64, Time: math.MaxUint32, Packets: math.MaxUint32, Octets: math.MaxUint32},
	} {
		for _, n := range []int{0, 1, 31} {
			checkRight(t, api.Report{Ssrc: 7, Sender: s, Blocks: many(n)}, false)
			checkRight(t, api.Report{Ssrc: 7, Sends: true, Sender: s, Blocks: many(n)}, true)
		}
	}
}

func TestMoreHasWholeWords(t *testing.T) {
	for n := range 70 {
		for _, sends := range []bool{false, true} {
			checkRight(t, api.Report{Sends: sends, More: some(n)}, n&3 == 0)
			checkRight(t, api.Report{Sends: sends, Blocks: many(31), More: some(n)}, n&3 == 0)
		}
	}
	checkRight(t, api.Report{More: []byte{}}, true)
}

func TestBodiesHaveAtMost65528Bytes(t *testing.T) {
	for _, sends := range []bool{false, true} {
		for count := range 32 {
			room := 65528 - least(sends, count)
			for n := room - 5; n <= room+8; n++ {
				r := api.Report{Ssrc: 1, Sends: sends, Blocks: many(count), More: some(n)}
				checkRight(t, r, n <= room && n&3 == 0)
			}
		}
	}
	for _, n := range []int{65528, 65536, 1 << 20, 1<<20 + 4} {
		checkRight(t, api.Report{More: make([]byte, n)}, false)
	}
}

// Each number is written where it is, at its least and at its greatest, and beside it there are noughts.
func TestEachNumberHasItsPlace(t *testing.T) {
	const great = math.MaxUint32
	block := func(x api.Block) api.Report {
		return api.Report{Sends: true, Blocks: []api.Block{{}, x, {}}}
	}
	for _, x := range []struct {
		r     api.Report
		at, n int
	}{
		{api.Report{Sends: true, Blocks: make([]api.Block, 3), Ssrc: great}, 0, 4},
		{api.Report{Sends: true, Blocks: make([]api.Block, 3), Sender: api.Sender{Ntp: math.MaxUint64}}, 4, 8},
		{api.Report{Sends: true, Blocks: make([]api.Block, 3), Sender: api.Sender{Time: great}}, 12, 4},
		{api.Report{Sends: true, Blocks: make([]api.Block, 3), Sender: api.Sender{Packets: great}}, 16, 4},
		{api.Report{Sends: true, Blocks: make([]api.Block, 3), Sender: api.Sender{Octets: great}}, 20, 4},
		{block(api.Block{Ssrc: great}), 48, 4},
		{block(api.Block{Fraction: 255}), 52, 1},
		{block(api.Block{Lost: -1}), 53, 3},
		{block(api.Block{Highest: great}), 56, 4},
		{block(api.Block{Jitter: great}), 60, 4},
		{block(api.Block{Last: great}), 64, 4},
		{block(api.Block{Delay: great}), 68, 4},
	} {
		want := make([]byte, 96)
		for i := range x.n {
			want[x.at+i] = 255
		}
		b, err := Write(x.r)
		if err != api.OK || !bytes.Equal(b, want) {
			t.Errorf("Write(%v) = %v, %d; want %v", x.r, b, err, want)
		}
		r, err := Read(true, 3, want)
		if err != api.OK || !same(r, x.r) {
			t.Errorf("Read of %v = %v, %d; want %v", want, r, err, x.r)
		}
	}
}

// What is wrong in two ways is wrong in none.
func TestTwoFaultsAreOneError(t *testing.T) {
	checkRight(t, api.Report{Sender: api.Sender{Time: 1}, More: some(3)}, false)
	checkRight(t, api.Report{Sender: api.Sender{Time: 1}, Blocks: make([]api.Block, 32)}, false)
	checkRight(t, api.Report{Blocks: []api.Block{{Lost: 1 << 23}}, More: some(65526)}, false)
	checkRight(t, api.Report{Blocks: []api.Block{{Lost: 1 << 23}, {Lost: -1<<23 - 1}}}, false)
}

// P12.2

func TestReadOfTheExample(t *testing.T) {
	r, err := Read(false, 0, []byte{1, 2, 3, 4})
	if err != api.OK || !same(r, api.Report{Ssrc: 0x01020304}) {
		t.Errorf("Read = %v, %d", r, err)
	}
}

// The same bytes are told otherwise by who sends, and by how many blocks there are.
func TestReadBySendsAndCount(t *testing.T) {
	b := some(52)
	for _, x := range []struct {
		sends bool
		count int
		want  api.Report
	}{
		{false, 0, api.Report{Ssrc: 0x01020304, More: b[4:]}},
		{true, 0, api.Report{Ssrc: 0x01020304, Sends: true, More: b[24:],
			Sender: api.Sender{Ntp: 0x05060708090A0B0C, Time: 0x0D0E0F10, Packets: 0x11121314, Octets: 0x15161718}}},
		{false, 1, api.Report{Ssrc: 0x01020304, More: b[28:], Blocks: []api.Block{
			{Ssrc: 0x05060708, Fraction: 9, Lost: 0x0A0B0C, Highest: 0x0D0E0F10, Jitter: 0x11121314, Last: 0x15161718, Delay: 0x191A1B1C}}}},
		{false, 2, api.Report{Ssrc: 0x01020304, Blocks: []api.Block{
			{Ssrc: 0x05060708, Fraction: 9, Lost: 0x0A0B0C, Highest: 0x0D0E0F10, Jitter: 0x11121314, Last: 0x15161718, Delay: 0x191A1B1C},
			{Ssrc: 0x1D1E1F20, Fraction: 33, Lost: 0x222324, Highest: 0x25262728, Jitter: 0x292A2B2C, Last: 0x2D2E2F30, Delay: 0x31323334}}}},
		{true, 1, api.Report{Ssrc: 0x01020304, Sends: true, More: b[48:],
			Sender: api.Sender{Ntp: 0x05060708090A0B0C, Time: 0x0D0E0F10, Packets: 0x11121314, Octets: 0x15161718},
			Blocks: []api.Block{{Ssrc: 0x191A1B1C, Fraction: 29, Lost: 0x1E1F20, Highest: 0x21222324, Jitter: 0x25262728, Last: 0x292A2B2C, Delay: 0x2D2E2F30}}}},
	} {
		r, err := Read(x.sends, x.count, b)
		if err != api.OK || !same(r, x.want) {
			t.Errorf("Read(%v, %d) = %v, %d; want %v", x.sends, x.count, r, err, x.want)
		}
	}
	for _, sends := range []bool{false, true} {
		for count := -2; count <= 34; count++ {
			checkRead(t, sends, count, b)
		}
	}
}

// Bodies of every length about each count's, all counts about those that may be.
func TestReadOfEveryLength(t *testing.T) {
	b := some(1000)
	for _, sends := range []bool{false, true} {
		for count := -3; count <= 35; count++ {
			for n := range b {
				checkRead(t, sends, count, b[:n])
			}
		}
	}
}

func TestReadAboutTheGreatestBody(t *testing.T) {
	b := some(1 << 17)
	for _, sends := range []bool{false, true} {
		for _, count := range []int{-1, 0, 1, 30, 31, 32} {
			for n := 65528 - 8; n <= 65528+12; n++ {
				checkRead(t, sends, count, b[:n])
			}
			checkRead(t, sends, count, b)
			checkRead(t, sends, count, b[:65536])
			checkRead(t, sends, count, b[:65535+5])
		}
	}
}

func TestReadTellsTheFirstFault(t *testing.T) {
	for _, x := range []struct {
		sends    bool
		count, n int
		want     api.Errno
	}{
		// A count that may not be comes ahead of all.
		{false, -1, 0, api.ErrArg}, {true, -1, 3, api.ErrArg}, {false, 32, 0, api.ErrArg}, {true, 32, 5, api.ErrArg},
		{false, 32, 65532, api.ErrArg}, {false, -1, 65529, api.ErrArg}, {false, 32, 772, api.ErrArg},
		{false, math.MaxInt, 4, api.ErrArg}, {true, math.MinInt, 24, api.ErrArg}, {false, 1 << 32, 4, api.ErrArg},
		{false, math.MaxInt/24 + 1, 4, api.ErrArg}, {true, -1 << 32, 24, api.ErrArg},
		// Words that aren't whole come ahead of too few.
		{false, 0, 1, api.ErrLength}, {false, 0, 3, api.ErrLength}, {true, 31, 5, api.ErrLength}, {true, 0, 22, api.ErrLength},
		{false, 0, 65529, api.ErrLength}, {false, 0, 65532, api.ErrLength}, {true, 31, 65532, api.ErrLength},
		{false, 0, 0, api.ErrShort}, {true, 0, 0, api.ErrShort}, {true, 31, 0, api.ErrShort}, {true, 0, 4, api.ErrShort},
		{true, 0, 20, api.ErrShort}, {false, 1, 24, api.ErrShort}, {true, 1, 44, api.ErrShort},
		{false, 31, 744, api.ErrShort}, {true, 31, 764, api.ErrShort},
		{false, 0, 4, api.OK}, {true, 0, 24, api.OK}, {false, 31, 748, api.OK}, {true, 31, 768, api.OK},
		{false, 0, 8, api.OK}, {true, 0, 28, api.OK}, {false, 31, 752, api.OK}, {true, 31, 772, api.OK},
		{false, 0, 65528, api.OK}, {true, 31, 65528, api.OK},
	} {
		r, err := Read(x.sends, x.count, make([]byte, x.n))
		if err != x.want {
			t.Errorf("Read(%v, %d, %d bytes) has %d; want %d", x.sends, x.count, x.n, err, x.want)
		}
		if err != api.OK && !same(r, api.Report{}) {
			t.Errorf("Read(%v, %d, %d bytes) answers %v beside an error", x.sends, x.count, x.n, r)
		}
		checkRead(t, x.sends, x.count, make([]byte, x.n))
	}
	checkRead(t, false, 0, nil)
	checkRead(t, true, 31, nil)
}

// What was lost is told by its highest bit as below 0, whatever stands beside it.
func TestReadOfLost(t *testing.T) {
	for _, x := range []struct {
		b    [3]byte
		want int32
	}{
		{[3]byte{0, 0, 0}, 0}, {[3]byte{0, 0, 1}, 1}, {[3]byte{127, 255, 255}, 1<<23 - 1}, {[3]byte{128, 0, 0}, -1 << 23},
		{[3]byte{128, 0, 1}, -1<<23 + 1}, {[3]byte{255, 255, 255}, -1}, {[3]byte{255, 0, 0}, -65536}, {[3]byte{0, 128, 0}, 32768},
	} {
		for _, beside := range []byte{0, 255} {
			body := bytes.Repeat([]byte{beside}, 28)
			copy(body[9:], x.b[:])
			r, err := Read(false, 1, body)
			if err != api.OK || len(r.Blocks) != 1 || r.Blocks[0].Lost != x.want || r.Blocks[0].Fraction != beside {
				t.Errorf("Read(%v) = %v, %d; want %d", body, r, err, x.want)
			}
		}
	}
}

// Every bit of a body goes to its place, and to no other one.
func TestEveryBitIsRead(t *testing.T) {
	for _, sends := range []bool{false, true} {
		for _, count := range []int{0, 1, 2} {
			for bit := range 8 * 80 {
				b := make([]byte, 80)
				b[bit/8] = 1 << (bit % 8)
				checkRead(t, sends, count, b)
			}
		}
	}
}

// A body's spare room is no part of it.
func TestSpareRoomIsNoBytes(t *testing.T) {
	room := some(100)
	checkRead(t, true, 1, room[:44])
	checkRead(t, false, 0, room[:0])
	checkRead(t, true, 1, room[:48])
	if r, err := Read(true, 1, room[:48]); err != api.OK || len(r.More) != 0 {
		t.Errorf("Read = %v, %d", r, err)
	}
}

// P12.3

func TestThereAndBackAtTheEdges(t *testing.T) {
	const great = math.MaxUint32
	for _, count := range []int{0, 1, 31} {
		for _, lost := range []int32{-1 << 23, -1, 0, 1, 1<<23 - 1} {
			for _, more := range []int{0, 4, 8, 65528 - 24 - 24*31} {
				l := make([]api.Block, count)
				for i := range l {
					l[i] = api.Block{Ssrc: great, Fraction: 255, Lost: lost, Highest: great, Jitter: great, Last: great, Delay: great}
				}
				checkBack(t, api.Report{Blocks: l, More: some(more)})
				checkBack(t, api.Report{Sends: true, Blocks: l, More: some(more)})
				checkBack(t, api.Report{Ssrc: great, Sends: true, Blocks: l, More: some(more),
					Sender: api.Sender{Ntp: math.MaxUint64, Time: great, Packets: great, Octets: great}})
			}
		}
	}
}

// random answers a report that is right.
func random(r *rand.Rand) api.Report {
	x := api.Report{Ssrc: r.Uint32(), Sends: r.Intn(2) == 0, More: make([]byte, 4*r.Intn(6))}
	r.Read(x.More)
	if x.Sends {
		x.Sender = api.Sender{Ntp: r.Uint64(), Time: r.Uint32(), Packets: r.Uint32(), Octets: r.Uint32()}
	}
	for range r.Intn(32) {
		x.Blocks = append(x.Blocks, api.Block{Ssrc: r.Uint32(), Fraction: uint8(r.Intn(256)), Lost: int32(r.Intn(1<<24) - 1<<23),
			Highest: r.Uint32(), Jitter: r.Uint32(), Last: r.Uint32(), Delay: r.Uint32()})
	}
	return x
}

func TestReportsAreReadAsTheyWere(t *testing.T) {
	r := rand.New(rand.NewSource(12))
	for range 20000 {
		x := random(r)
		checkRight(t, x, true)
		checkBack(t, x)
	}
}

// Whatever a body is, what is read of it is right, and is written to just that body.
func TestABodyIsThatOfWhatIsRead(t *testing.T) {
	r := rand.New(rand.NewSource(13))
	taken := 0
	for range 100000 {
		b := make([]byte, r.Intn(200))
		if r.Intn(4) > 0 {
			b = make([]byte, 4*r.Intn(60))
		}
		r.Read(b)
		sends, count := r.Intn(2) == 0, r.Intn(8)-1
		checkRead(t, sends, count, b)
		x, err := Read(sends, count, b)
		if err != api.OK {
			continue
		}
		taken++
		if back, err := Write(x); !Right(x) || err != api.OK || !bytes.Equal(back, b) {
			t.Fatalf("of %v there is read %v, and written %v, %d", b, x, back, err)
		}
	}
	if taken < 10000 {
		t.Errorf("only %d bodies were taken", taken)
	}
}

func TestTheGreatestBodyIsThatOfWhatIsRead(t *testing.T) {
	b := some(65528)
	for _, sends := range []bool{false, true} {
		for count := range 32 {
			x, err := Read(sends, count, b)
			if err != api.OK {
				t.Fatalf("Read(%v, %d) has %d", sends, count, err)
			}
			if back, err := Write(x); err != api.OK || !bytes.Equal(back, b) {
				t.Errorf("Read(%v, %d) isn't written as it was: %d", sends, count, err)
			}
		}
	}
}

// Rule 3: what is handed in is neither changed nor kept, its spare room neither.

func TestWhatIsHandedInIsLeftAlone(t *testing.T) {
	room, blocks := some(200), many(6)
	for n := range 6 {
		r := api.Report{Ssrc: 1, Blocks: blocks[:n:5], More: room[:4*n]}
		Right(r)
		Write(r)
		r.More = room[:4*n+1]
		Write(r)
	}
	for n := range room {
		Read(true, 1, room[:n])
		Read(false, 3, room[:n])
	}
	if !bytes.Equal(room, some(200)) || !slices.Equal(blocks, many(6)) {
		t.Errorf("what was handed in was changed to %v, %v", room, blocks)
	}
}

// What is handed in has no noughts, so that clearing an answer that shares it would be seen.
func TestAnswersAreNewMemory(t *testing.T) {
	more := some(8)
	x := api.Report{Ssrc: 1, Blocks: many(2), More: more}
	b, _ := Write(x)
	clear(b[:cap(b)])
	if !bytes.Equal(more, some(8)) {
		t.Errorf("a body shares More's bytes")
	}
	b, _ = Write(x)
	clear(more)
	if !bytes.Equal(b, told(api.Report{Ssrc: 1, Blocks: many(2), More: some(8)})) {
		t.Errorf("a body is More's bytes")
	}
	body := some(60)
	for _, sends := range []bool{false, true} {
		r, _ := Read(sends, 1, body)
		clear(r.More[:cap(r.More)])
		if !bytes.Equal(body, some(60)) {
			t.Errorf("More shares the body's bytes")
		}
	}
	r, _ := Read(false, 1, body)
	clear(body)
	if !same(r, heard(false, 1, some(60))) {
		t.Errorf("a report is the body's bytes")
	}
}
