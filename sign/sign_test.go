package sign

import (
	"bytes"
	"math"
	"math/rand"
	"slices"
	"strings"
	"testing"

	"crossbar/api"
)

// tokenLetters are all bytes that a token may have.
const tokenLetters = "abcdefghijklmnopqrstuvwxyzABCDEFGHIJKLMNOPQRSTUVWXYZ0123456789-_"

// kinds answers all kinds that there are.
func kinds() []int {
	return []int{api.Mid, api.Rid, api.SendTime, api.Level, api.Wide, api.Turn}
}

// noKinds answers kinds that there are not, the nearest ones first.
func noKinds() []int {
	return []int{0, 7, -1, 8, -2, 9, -6, 255, 256, 257, 260, 1 << 16, 1<<32 + 1, 1<<32 + 6, math.MaxInt, math.MinInt, math.MinInt + 1}
}

// isToken tells whether s is a token, by the chapter of texts.
func isToken(s string) bool {
	return len(s) >= 1 && len(s) <= 16 && strings.Trim(s, tokenLetters) == ""
}

// written is a right sign, with what is written of it.
type written struct {
	s api.Sign
	b []byte
}

// forms answers right signs, the edges among them.
func forms() []written {
	return []written{
		{api.Sign{Kind: api.Mid, Text: "a"}, []byte{97}},
		{api.Sign{Kind: api.Mid, Text: "0"}, []byte{48}},
		{api.Sign{Kind: api.Mid, Text: "-"}, []byte{45}},
		{api.Sign{Kind: api.Mid, Text: "_"}, []byte{95}},
		{api.Sign{Kind: api.Mid, Text: "audio"}, []byte{97, 117, 100, 105, 111}},
		{api.Sign{Kind: api.Mid, Text: "azAZ09-_azAZ09-"}, []byte("azAZ09-_azAZ09-")},
		{api.Sign{Kind: api.Mid, Text: "azAZ09-_azAZ09-_"}, []byte("azAZ09-_azAZ09-_")},
		{api.Sign{Kind: api.Rid, Text: "h"}, []byte{104}},
		{api.Sign{Kind: api.Rid, Text: "Z"}, []byte{90}},
		{api.Sign{Kind: api.Rid, Text: "q_1"}, []byte{113, 95, 49}},
		{api.Sign{Kind: api.Rid, Text: "----------------"}, bytes.Repeat([]byte{45}, 16)},
		{api.Sign{Kind: api.SendTime}, []byte{0, 0, 0}},
		{api.Sign{Kind: api.SendTime, Num: 1}, []byte{0, 0, 1}},
		{api.Sign{Kind: api.SendTime, Num: 255}, []byte{0, 0, 255}},
		{api.Sign{Kind: api.SendTime, Num: 256}, []byte{0, 1, 0}},
		{api.Sign{Kind: api.SendTime, Num: 65535}, []byte{0, 255, 255}},
		{api.Sign{Kind: api.SendTime, Num: 65536}, []byte{1, 0, 0}},
		{api.Sign{Kind: api.SendTime, Num: 0x123456}, []byte{18, 52, 86}},
		{api.Sign{Kind: api.SendTime, Num: 1<<24 - 1}, []byte{255, 255, 255}},
		{api.Sign{Kind: api.Level}, []byte{0}},
		{api.Sign{Kind: api.Level, A: true}, []byte{128}},
		{api.Sign{Kind: api.Level, Num: 1}, []byte{1}},
		{api.Sign{Kind: api.Level, Num: 1, A: true}, []byte{129}},
		{api.Sign{Kind: api.Level, Num: 127}, []byte{127}},
		{api.Sign{Kind: api.Level, Num: 127, A: true}, []byte{255}},
		{api.Sign{Kind: api.Wide}, []byte{0, 0}},
		{api.Sign{Kind: api.Wide, Num: 1}, []byte{0, 1}},
		{api.Sign{Kind: api.Wide, Num: 255}, []byte{0, 255}},
		{api.Sign{Kind: api.Wide, Num: 256}, []byte{1, 0}},
		{api.Sign{Kind: api.Wide, Num: 65535}, []byte{255, 255}},
		{api.Sign{Kind: api.Turn}, []byte{0}},
		{api.Sign{Kind: api.Turn, Turns: 1}, []byte{1}},
		{api.Sign{Kind: api.Turn, Turns: 3}, []byte{3}},
		{api.Sign{Kind: api.Turn, B: true}, []byte{4}},
		{api.Sign{Kind: api.Turn, B: true, Turns: 2}, []byte{6}},
		{api.Sign{Kind: api.Turn, B: true, Turns: 3}, []byte{7}},
		{api.Sign{Kind: api.Turn, A: true}, []byte{8}},
		{api.Sign{Kind: api.Turn, A: true, Turns: 1}, []byte{9}},
		{api.Sign{Kind: api.Turn, A: true, Turns: 3}, []byte{11}},
		{api.Sign{Kind: api.Turn, A: true, B: true}, []byte{12}},
		{api.Sign{Kind: api.Turn, A: true, B: true, Turns: 3}, []byte{15}},
	}
}

// told answers what the chapter tells of s: its bytes, and whether it is right.
func told(s api.Sign) ([]byte, bool) {
	more := func(on bool, n int) int {
		if on {
			return n
		}
		return 0
	}
	n := int(s.Num)
	switch s.Kind {
	case 1, 2:
		return []byte(s.Text), isToken(s.Text) && s.Num == 0 && !s.A && !s.B && s.Turns == 0
	case 3:
		return []byte{byte(n / 65536), byte(n / 256), byte(n)}, n < 1<<24 && s.Text == "" && !s.A && !s.B && s.Turns == 0
	case 4:
		return []byte{byte(n + more(s.A, 128))}, n <= 127 && s.Text == "" && !s.B && s.Turns == 0
	case 5:
		return []byte{byte(n / 256), byte(n)}, n < 1<<16 && s.Text == "" && !s.A && !s.B && s.Turns == 0
	case 6:
		return []byte{byte(s.Turns + more(s.B, 4) + more(s.A, 8))}, s.Turns >= 0 && s.Turns <= 3 && s.Text == "" && s.Num == 0
	}
	return nil, false
}

// eachSign goes through signs of each kind, with these fields in all ways together.
func eachSign(texts []string, nums []uint32, turns []int, do func(api.Sign)) {
	for _, kind := range slices.Concat(kinds(), noKinds()) {
		for _, text := range texts {
			for _, num := range nums {
				for _, n := range turns {
					for i := range 4 {
						do(api.Sign{Kind: kind, Text: text, Num: num, A: i&1 != 0, B: i&2 != 0, Turns: n})
					}
				}
			}
		}
	}
}

// P9.1

// checkWritten holds what is told and written of s against the chapter.
func checkWritten(t *testing.T, s api.Sign) {
	t.Helper()
	want, right := told(s)
	err := api.OK
	if !right {
		want, err = nil, api.ErrArg
	}
	if Right(s) != right {
		t.Errorf("Right(%+v) is %t", s, !right)
	}
	if b, e := Write(s); e != err || !bytes.Equal(b, want) {
		t.Errorf("Write(%+v) = %v, %d; want %v, %d", s, b, e, want, err)
	}
}

func TestRightSignsAreWritten(t *testing.T) {
	for _, f := range forms() {
		if !Right(f.s) {
			t.Errorf("Right(%+v) is false", f.s)
		}
		if b, err := Write(f.s); err != api.OK || !bytes.Equal(b, f.b) {
			t.Errorf("Write(%+v) = %v, %d; want %v", f.s, b, err, f.b)
		}
		checkWritten(t, f.s)
	}
}

func TestWrongSignsAreRefused(t *testing.T) {
	for _, s := range []api.Sign{
		{},
		{Kind: api.Mid},
		{Kind: api.Mid, Text: "azAZ09-_azAZ09-_a"},
		{Kind: api.Mid, Text: "a b"},
		{Kind: api.Mid, Text: "a\x00"},
		{Kind: api.Mid, Text: "\xff"},
		{Kind: api.Mid, Text: "a", Num: 1},
		{Kind: api.Mid, Text: "a", A: true},
		{Kind: api.Mid, Text: "a", B: true},
		{Kind: api.Mid, Text: "a", Turns: 1},
		{Kind: api.Rid},
		{Kind: api.Rid, Text: strings.Repeat("a", 17)},
		{Kind: api.Rid, Text: strings.Repeat("a", 1<<20)},
		{Kind: api.Rid, Text: "é"},
		{Kind: api.Rid, Text: "a.b"},
		{Kind: api.Rid, Text: "a", Num: 1},
		{Kind: api.Rid, Text: "a", Turns: -1},
		{Kind: api.SendTime, Num: 1 << 24},
		{Kind: api.SendTime, Num: math.MaxUint32},
		{Kind: api.SendTime, Num: 1, Text: "a"},
		{Kind: api.SendTime, Num: 1, A: true},
		{Kind: api.SendTime, Num: 1, B: true},
		{Kind: api.SendTime, Num: 1, Turns: 1},
		{Kind: api.Level, Num: 128},
		{Kind: api.Level, Num: 128, A: true},
		{Kind: api.Level, Num: 256},
		{Kind: api.Level, Num: math.MaxUint32 - 127, A: true},
		{Kind: api.Level, Num: 1, Text: "a"},
		{Kind: api.Level, Num: 1, B: true},
		{Kind: api.Level, Num: 1, A: true, Turns: 1},
		{Kind: api.Wide, Num: 1 << 16},
		{Kind: api.Wide, Num: 1 << 24},
		{Kind: api.Wide, Num: 1, Text: "a"},
		{Kind: api.Wide, Num: 1, A: true},
		{Kind: api.Wide, Num: 1, B: true},
		{Kind: api.Wide, Num: 1, Turns: 1},
		{Kind: api.Turn, Turns: -1},
		{Kind: api.Turn, Turns: -1, B: true},
		{Kind: api.Turn, Turns: -4, A: true, B: true},
		{Kind: api.Turn, Turns: 4},
		{Kind: api.Turn, Turns: 8},
		{Kind: api.Turn, Turns: 16},
		{Kind: api.Turn, Turns: 256},
		{Kind: api.Turn, Turns: 1<<32 + 1},
		{Kind: api.Turn, Turns: math.MaxInt, A: true, B: true},
		{Kind: api.Turn, Turns: math.MinInt},
		{Kind: api.Turn, Turns: 1, Text: "a"},
		{Kind: api.Turn, Turns: 1, Num: 1},
	} {
		if Right(s) {
			t.Errorf("Right(%+v)", s)
		}
		if b, err := Write(s); len(b) != 0 || err != api.ErrArg {
			t.Errorf("Write(%+v) = %v, %d", s, b, err)
		}
		checkWritten(t, s)
	}
}

func TestSignsOfNoKindAreRefused(t *testing.T) {
	for _, kind := range noKinds() {
		for _, f := range forms() {
			f.s.Kind = kind
			if Right(f.s) {
				t.Errorf("Right(%+v)", f.s)
			}
			if b, err := Write(f.s); len(b) != 0 || err != api.ErrArg {
				t.Errorf("Write(%+v) = %v, %d", f.s, b, err)
			}
		}
	}
}

func TestFieldsInAllWaysTogether(t *testing.T) {
	texts := []string{"", "a", "a b", "azAZ09-_azAZ09-_", "azAZ09-_azAZ09-_a"}
	nums := []uint32{0, 1, 127, 128, 255, 256, 65535, 65536, 1<<24 - 1, 1 << 24, 1<<24 + 1, math.MaxUint32 - 127, math.MaxUint32}
	turns := []int{math.MinInt, -256, -4, -1, 0, 1, 2, 3, 4, 5, 7, 8, 15, 16, 256, 1 << 32, math.MaxInt}
	eachSign(texts, nums, turns, func(s api.Sign) {
		if !t.Failed() {
			checkWritten(t, s)
		}
	})
}

func TestEveryByteOfAWord(t *testing.T) {
	for x := range 256 {
		for _, around := range []string{"?", "?b", "a?b", "a?", "aaaaaaaaaaaaaaa?", "aaaaaaaaaaaaaaaa?"} {
			for _, kind := range []int{api.Mid, api.Rid} {
				checkWritten(t, api.Sign{Kind: kind, Text: strings.ReplaceAll(around, "?", string([]byte{byte(x)}))})
			}
		}
	}
}

func TestEveryNumber(t *testing.T) {
	for _, kind := range []int{api.SendTime, api.Level, api.Wide} {
		for num := uint32(0); num < 1<<17; num++ {
			checkWritten(t, api.Sign{Kind: kind, Num: num})
			checkWritten(t, api.Sign{Kind: kind, Num: num, A: true})
		}
		for bit := 1; bit < 32; bit++ {
			for near := range uint32(3) {
				checkWritten(t, api.Sign{Kind: kind, Num: 1<<bit - 1 + near})
			}
		}
		if t.Failed() {
			return
		}
	}
}

// P9.2

// heard answers what the chapter says that is read of b.
func heard(kind int, b []byte) (api.Sign, api.Errno) {
	sizes := map[int]int{3: 3, 4: 1, 5: 2, 6: 1}
	n := 0
	for _, x := range b {
		n = (256*n + int(x)) % (1 << 32)
	}
	switch {
	case kind < 1 || kind > 6:
		return api.Sign{}, api.ErrArg
	case kind > 2 && len(b) != sizes[kind], kind <= 2 && (len(b) < 1 || len(b) > 16):
		return api.Sign{}, api.ErrLength
	case kind <= 2 && !isToken(string(b)):
		return api.Sign{}, api.ErrField
	case kind <= 2:
		return api.Sign{Kind: kind, Text: string(b)}, api.OK
	case kind == 4:
		return api.Sign{Kind: kind, Num: uint32(n % 128), A: n >= 128}, api.OK
	case kind == 6:
		return api.Sign{Kind: kind, Turns: n % 4, B: n/4%2 == 1, A: n/8%2 == 1}, api.OK
	}
	return api.Sign{Kind: kind, Num: uint32(n)}, api.OK
}

// checkRead holds what is read of b, and whether it is canonical, against the chapter.
func checkRead(t *testing.T, kind int, b []byte) {
	t.Helper()
	want, err := heard(kind, b)
	if s, e := Read(kind, b); s != want || e != err {
		t.Errorf("Read(%d, %v) = %+v, %d; want %+v, %d", kind, b, s, e, want, err)
	}
	// Of what is read only a Turn's byte may be another one than what is written.
	if is, canon := Canon(kind, b), err == api.OK && (kind != 6 || b[0] < 16); is != canon {
		t.Errorf("Canon(%d, %v) is %t", kind, b, is)
	}
}

func TestSignsAreRead(t *testing.T) {
	for _, f := range forms() {
		if s, err := Read(f.s.Kind, f.b); s != f.s || err != api.OK {
			t.Errorf("Read(%d, %v) = %+v, %d; want %+v", f.s.Kind, f.b, s, err, f.s)
		}
		if !Canon(f.s.Kind, f.b) {
			t.Errorf("Canon(%d, %v) is false", f.s.Kind, f.b)
		}
	}
}

func TestHighBitsOfATurn(t *testing.T) {
	for x := range 256 {
		b := []byte{byte(x)}
		want, _ := Read(api.Turn, []byte{byte(x % 16)})
		if s, err := Read(api.Turn, b); s != want || err != api.OK {
			t.Errorf("Read(Turn, %v) = %+v, %d; want %+v", b, s, err, want)
		}
		if Canon(api.Turn, b) != (x < 16) {
			t.Errorf("Canon(Turn, %v) is %t", b, x >= 16)
		}
		// Of a Level every bit counts.
		if !Canon(api.Level, b) {
			t.Errorf("Canon(Level, %v) is false", b)
		}
	}
	if s, err := Read(api.Turn, []byte{246}); s != (api.Sign{Kind: api.Turn, B: true, Turns: 2}) || err != api.OK {
		t.Errorf("Read(Turn, 246) = %+v, %d", s, err)
	}
}

func TestFaults(t *testing.T) {
	for _, x := range []struct {
		kind int
		b    string
		err  api.Errno
	}{
		{0, "", api.ErrArg},
		{0, "a", api.ErrArg},
		{7, "a", api.ErrArg},
		{-1, "abc", api.ErrArg},
		{api.Mid, "", api.ErrLength},
		{api.Mid, "azAZ09-_azAZ09-_a", api.ErrLength},
		{api.Mid, "a b", api.ErrField},
		{api.Mid, " ", api.ErrField},
		{api.Mid, "azAZ09-_azAZ09-.", api.ErrField},
		{api.Mid, "\xff", api.ErrField},
		{api.Mid, "é", api.ErrField},
		{api.Rid, "", api.ErrLength},
		{api.Rid, "aaaaaaaaaaaaaaaaa", api.ErrLength},
		{api.Rid, "a\x00", api.ErrField},
		{api.Rid, "a\"", api.ErrField},
		// Of both faults the length's is told.
		{api.Mid, "azAZ09-_azAZ09- a", api.ErrLength},
		{api.Rid, "azAZ09-_azAZ09-_ ", api.ErrLength},
		{api.Rid, "ééééééééé", api.ErrLength},
		{api.Rid, strings.Repeat("\x00", 1<<16), api.ErrLength},
		// A kind that isn't there is told ahead of both.
		{7, "azAZ09-_azAZ09- a", api.ErrArg},
		{8, strings.Repeat("\x00", 17), api.ErrArg},
		{api.SendTime, "", api.ErrLength},
		{api.SendTime, "ab", api.ErrLength},
		{api.SendTime, "abcd", api.ErrLength},
		{api.Level, "", api.ErrLength},
		{api.Level, "ab", api.ErrLength},
		{api.Wide, "", api.ErrLength},
		{api.Wide, "a", api.ErrLength},
		{api.Wide, "abc", api.ErrLength},
		{api.Turn, "", api.ErrLength},
		{api.Turn, "\x01\x01", api.ErrLength},
		{api.Turn, "\xff\xff", api.ErrLength},
	} {
		if s, err := Read(x.kind, []byte(x.b)); s != (api.Sign{}) || err != x.err {
			t.Errorf("Read(%d, %q) = %+v, %d; want %d", x.kind, x.b, s, err, x.err)
		}
		if Canon(x.kind, []byte(x.b)) {
			t.Errorf("Canon(%d, %q)", x.kind, x.b)
		}
	}
}

func TestEveryKindAndSize(t *testing.T) {
	for _, kind := range slices.Concat(kinds(), noKinds()) {
		checkRead(t, kind, nil)
		for n := range 300 {
			for _, x := range []byte{0, 1, 15, 16, 97, 128, 255} {
				checkRead(t, kind, bytes.Repeat([]byte{x}, n))
			}
		}
	}
}

func TestAllOfUpToTwoBytes(t *testing.T) {
	for _, kind := range slices.Concat(kinds(), noKinds()) {
		for x := range 256 {
			checkRead(t, kind, []byte{byte(x)})
			for y := range 256 {
				checkRead(t, kind, []byte{byte(x), byte(y)})
			}
			if t.Failed() {
				return
			}
		}
	}
}

func TestAnyBytes(t *testing.T) {
	r := rand.New(rand.NewSource(1))
	for range 30000 {
		b := make([]byte, r.Intn(19))
		for i := range b {
			b[i] = tokenLetters[r.Intn(len(tokenLetters))]
			if r.Intn(20) == 0 {
				b[i] = byte(r.Intn(256))
			}
		}
		for kind := range 9 {
			checkRead(t, kind-1, b)
		}
		if t.Failed() {
			return
		}
	}
}

// What is canonical is what is written of some sign: so of up to two bytes all are gathered that any sign is written as.
func TestAllThatAreCanonical(t *testing.T) {
	all := map[int]map[string]bool{}
	put := func(s api.Sign) {
		b, err := Write(s)
		if err != api.OK {
			return
		}
		if all[s.Kind] == nil {
			all[s.Kind] = map[string]bool{}
		}
		all[s.Kind][string(b)] = true
	}
	texts := []string{""}
	for _, x := range tokenLetters {
		texts = append(texts, string(x))
		for _, y := range tokenLetters {
			texts = append(texts, string(x)+string(y))
		}
	}
	eachSign(texts, []uint32{0}, []int{0}, put)
	eachSign([]string{""}, []uint32{0}, []int{-1, 0, 1, 2, 3, 4, 16}, put)
	for num := uint32(0); num <= 1<<16; num++ {
		put(api.Sign{Kind: api.Wide, Num: num})
		put(api.Sign{Kind: api.Level, Num: num})
		put(api.Sign{Kind: api.Level, Num: num, A: true})
	}
	for _, kind := range []int{api.Mid, api.Rid, api.Level, api.Wide, api.Turn} {
		for v := range 1 << 16 {
			for _, b := range [][]byte{{byte(v >> 8), byte(v)}, {byte(v)}, {}} {
				if is, want := Canon(kind, b), all[kind][string(b)]; is != want {
					t.Fatalf("Canon(%d, %v) is %t", kind, b, is)
				}
			}
		}
	}
}

// P9.3

func TestThereAndBack(t *testing.T) {
	check := func(s api.Sign) {
		b, err := Write(s)
		if err != api.OK {
			return
		}
		if !Canon(s.Kind, b) {
			t.Errorf("Canon(%d, %v) is false, which is written of %+v", s.Kind, b, s)
		}
		if back, err := Read(s.Kind, b); back != s || err != api.OK {
			t.Errorf("%+v was read as %+v, %d", s, back, err)
		}
	}
	for _, f := range forms() {
		check(f.s)
	}
	for num := uint32(0); num < 1<<24; num += 251 {
		check(api.Sign{Kind: api.SendTime, Num: num})
	}
	for num := range uint32(1 << 16) {
		check(api.Sign{Kind: api.Wide, Num: num})
	}
	for num := range uint32(130) {
		check(api.Sign{Kind: api.Level, Num: num})
		check(api.Sign{Kind: api.Level, Num: num, A: true})
	}
	eachSign([]string{""}, []uint32{0}, []int{-1, 0, 1, 2, 3, 4}, check)
	r := rand.New(rand.NewSource(2))
	for range 3000 {
		text := make([]byte, 1+r.Intn(16))
		for i := range text {
			text[i] = tokenLetters[r.Intn(len(tokenLetters))]
		}
		check(api.Sign{Kind: 1 + r.Intn(2), Text: string(text)})
	}
}

func TestWhatIsReadIsRight(t *testing.T) {
	r := rand.New(rand.NewSource(3))
	for i := range 100000 {
		b := make([]byte, r.Intn(4))
		for j := range b {
			b[j] = byte(r.Intn(256))
			if i%2 == 0 {
				b[j] = tokenLetters[r.Intn(len(tokenLetters))]
			}
		}
		for _, kind := range kinds() {
			s, err := Read(kind, b)
			if err != api.OK {
				continue
			}
			again, err := Write(s)
			if !Right(s) || err != api.OK {
				t.Fatalf("%+v was read of %v", s, b)
			}
			if Canon(kind, b) != bytes.Equal(again, b) {
				t.Fatalf("Canon(%d, %v) is %t; %v is written of what is read", kind, b, Canon(kind, b), again)
			}
		}
	}
}

// Rule 3: what is handed in is neither changed nor kept, its spare room neither.

func TestBytesAreLeftAlone(t *testing.T) {
	for _, f := range forms() {
		room := append(slices.Clone(f.b), 1, 2, 3)
		before := slices.Clone(room)
		b := room[:len(f.b)]
		s, _ := Read(f.s.Kind, b)
		Canon(f.s.Kind, b)
		if !bytes.Equal(room, before) {
			t.Errorf("%v was changed to %v", before, room)
		}
		for i := range room {
			room[i] = 'x'
		}
		if s != f.s {
			t.Errorf("%+v is now %+v", f.s, s)
		}
	}
}

func TestWhatIsWrittenIsNew(t *testing.T) {
	for _, f := range forms() {
		b, _ := Write(f.s)
		for i := range b {
			b[i]++
		}
		if again, _ := Write(f.s); !bytes.Equal(again, f.b) {
			t.Errorf("Write(%+v) is now %v; want %v", f.s, again, f.b)
		}
	}
}
