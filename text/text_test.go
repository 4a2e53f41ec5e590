package text

import (
	"math/rand"
	"slices"
	"strings"
	"testing"

	"crossbar/api"
)

// runeSize answers how many bytes the rune has with which s begins, by the bits that the forms of UTF-8 have; 0, if a stray byte is there.
func runeSize(s string) int {
	for _, f := range []struct {
		size, lead, free int
		least, most      int
	}{
		{1, 0x00, 7, 0, 0x7f},
		{2, 0xc0, 5, 0x80, 0x7ff},
		{3, 0xe0, 4, 0x800, 0xffff},
		{4, 0xf0, 3, 0x10000, 0x10ffff},
	} {
		if len(s) < f.size || int(s[0])>>f.free != f.lead>>f.free {
			continue
		}
		n := int(s[0]) - f.lead
		for _, x := range []byte(s[1:f.size]) {
			if x&0xc0 != 0x80 {
				return 0
			}
			n = n<<6 | int(x&0x3f)
		}
		if n < f.least || n > f.most || n >= 0xd800 && n <= 0xdfff {
			return 0
		}
		return f.size
	}
	return 0
}

// quotedByHand answers the quoted form of s, and how many runes and stray bytes s has, and whether it may be.
func quotedByHand(s string) (quoted string, many int, may bool) {
	quoted, may = `"`, true
	for len(s) > 0 {
		n := runeSize(s)
		switch {
		case n == 0 || s[0] < 32 || s[0] == 127:
			n, may = 1, false
			quoted += `\` + string("0123456789abcdef"[s[0]/16]) + string("0123456789abcdef"[s[0]%16])
		case s[0] == '"' || s[0] == '\\':
			quoted += `\` + s[:1]
		default:
			quoted += s[:n]
		}
		s = s[n:]
		many++
	}
	return quoted + `"`, many, may
}

// checkText holds all that is said of s against what is worked out by hand.
func checkText(t *testing.T, s string) {
	t.Helper()
	quoted, many, may := quotedByHand(s)
	if May(s) != may {
		t.Fatalf("May(%q) = %v", s, !may)
	}
	if n := Runes(s); n != many {
		t.Fatalf("Runes(%q) = %d; want %d", s, n, many)
	}
	if x := Quote(s); x != quoted {
		t.Fatalf("Quote(%q) = %s; want %s", s, x, quoted)
	}
	if x, err := Unquote(quoted); x != s || err != api.OK {
		t.Fatalf("Unquote(%s) = %q, %d; want %q", quoted, x, err, s)
	}
}

// everyText calls f with each text of at most most of the parts.
func everyText(parts []string, most int, f func(s string)) {
	var grow func(s string, left int)
	grow = func(s string, left int) {
		f(s)
		if left == 0 {
			return
		}
		for _, x := range parts {
			grow(s+x, left-1)
		}
	}
	grow("", most)
}

// P4.1

func TestToken(t *testing.T) {
	for _, s := range []string{
		"a", "z", "A", "Z", "0", "9", "-", "_", "--", "__",
		"0123456789abcde", "0123456789abcdef", "----------------",
		"az-AZ_09", "audio", "Mid-1_b",
	} {
		if !Token(s) {
			t.Errorf("Token(%q) is false", s)
		}
	}
	for _, s := range []string{
		"", "0123456789abcdefg", strings.Repeat("a", 17), strings.Repeat("a", 1000),
		" ", "a b", " a", "a ", "a\x00", "\x00", "a\n", "a.b", "a+", `"a"`,
		"é", "aé", "\u0663", "\uff41", "\u212a", "\u017f", "\u2212", "\ufffd", "\xff", "a\xff", "a\xc3",
		"0123456789abcdeé", "éééééééé", "0123456789abcde\xe9",
	} {
		if Token(s) {
			t.Errorf("Token(%q) is true", s)
		}
	}
}

func TestTokenOfEveryByte(t *testing.T) {
	const in = "abcdefghijklmnopqrstuvwxyzABCDEFGHIJKLMNOPQRSTUVWXYZ0123456789-_"
	for x := range 256 {
		c := string([]byte{byte(x)})
		want := strings.Contains(in, c)
		for n := 1; n <= api.MaxToken; n++ {
			for at := range n {
				s := strings.Repeat("a", at) + c + strings.Repeat("b", n-1-at)
				if Token(s) != want {
					t.Fatalf("Token(%q) = %v", s, !want)
				}
			}
		}
	}
}

func TestTokenOfEveryRune(t *testing.T) {
	for r := rune(128); r <= 0x10ffff; r++ {
		if Token(string(r)) {
			t.Fatalf("Token(%q) is true", r)
		}
	}
}

// texts are texts with how many runes they have, and whether they may be.
var texts = []struct {
	s    string
	many int
	may  bool
}{
	{"", 0, true},
	{" ", 1, true},
	{"~", 1, true},
	{"a é €", 5, true},
	{"a\U0001f600b", 3, true},
	{`"\`, 2, true},
	{"\x00", 1, false},
	{"\n", 1, false},
	{"\x1f", 1, false},
	{"\x7f", 1, false},
	{"a\tb", 3, false},
	{"é\n", 2, false},
	{"\u0080", 1, true},
	{"\u009f\u00a0\u00ad", 3, true},
	{"\u200b\u2028\ufeff", 3, true},
	{"\ufffd", 1, true},
	{"\ufffda\ufffd", 3, true},
	{"\ufffe\uffff", 2, true},
	{"\u07ff\u0800\ud7ff\ue000", 4, true},
	{"\U00010000\U0010ffff", 2, true},
	{"\xff", 1, false},
	{"\xfe\xff", 2, false},
	{"\x80", 1, false},
	{"\xbf\x80", 2, false},
	{"\ufffd\xff", 2, false},
	{"\xff\ufffd", 2, false},
	// Beginnings that are cut off.
	{"\xc3", 1, false},
	{"a\xc3", 2, false},
	{"\xc3a", 2, false},
	{"\xe2\x82", 2, false},
	{"a\xe2\x82é", 4, false},
	{"\xe2\x82\xe2\x82\xac", 3, false},
	{"\xef\xbf", 2, false},
	{"\xef\xbf\xbd\xbd", 2, false},
	{"\xf0\x9f\x98", 3, false},
	{"\xf0\x9f\x98\"", 4, false},
	{"\xc3\xc3\xa9", 2, false},
	// Longer forms than the shortest.
	{"\xc0\x80", 2, false},
	{"\xc1\xbf", 2, false},
	{"\xe0\x80\x80", 3, false},
	{"\xe0\x9f\xbf", 3, false},
	{"\xf0\x80\x80\x80", 4, false},
	{"\xf0\x8f\xbf\xbf", 4, false},
	{"\xf0\x8f\xbf\xbd", 4, false},
	{"\xf8\x88\x80\x80\x80", 5, false},
	{"\xfc\x84\x80\x80\x80\x80", 6, false},
	// Surrogates.
	{"\xed\xa0\x80", 3, false},
	{"\xed\xbf\xbf", 3, false},
	{"\xed\xa0\x80\xed\xb0\x80", 6, false},
	// Above 10FFFF.
	{"\xf4\x90\x80\x80", 4, false},
	{"\xf5\x80\x80\x80", 4, false},
	{"\xf7\xbf\xbf\xbf", 4, false},
}

func TestMay(t *testing.T) {
	for _, c := range texts {
		if May(c.s) != c.may {
			t.Errorf("May(%q) = %v", c.s, !c.may)
		}
		if May("é"+c.s) != c.may || May(c.s+"é") != c.may {
			t.Errorf("May of %q beside é isn't %v", c.s, c.may)
		}
	}
}

func TestRunes(t *testing.T) {
	for _, c := range texts {
		if n := Runes(c.s); n != c.many {
			t.Errorf("Runes(%q) = %d; want %d", c.s, n, c.many)
		}
	}
	if n := Runes(strings.Repeat("€\xff", 100000)); n != 200000 {
		t.Error(n)
	}
}

// P4.2

// forms are texts with their quoted forms.
var forms = []struct{ s, quoted string }{
	{"", `""`},
	{"a", `"a"`},
	{"a b", `"a b"`},
	{"a\"b\n", `"a\"b\0a"`},
	{`"`, `"\""`},
	{`""`, `"\"\""`},
	{`\`, `"\\"`},
	{`\\`, `"\\\\"`},
	{`\"`, `"\\\""`},
	{`\0a`, `"\\0a"`},
	{`a"b\c`, `"a\"b\\c"`},
	{"\x00", `"\00"`},
	{"\x00\x01\x1e\x1f", `"\00\01\1e\1f"`},
	{"\x7f", `"\7f"`},
	{"\t\xffé\x7f", `"\09\ffé\7f"`},
	{"\n0a", `"\0a0a"`},
	{"~ ", `"~ "`},
	{"€", `"€"`},
	{"\U0001f600", "\"\U0001f600\""},
	{"\U0010ffff", "\"\U0010ffff\""},
	{"\u0080", "\"\u0080\""},
	{"\ufffd", "\"\ufffd\""},
	{"\ufffd\xff", "\"\ufffd\\ff\""},
	{"\x80\xab\xcd\xef", `"\80\ab\cd\ef"`},
	{"\xe2\x82", `"\e2\82"`},
	{"\xe2\x82é", `"\e2\82é"`},
	{"\xef\xbf", `"\ef\bf"`},
	{"\xc0\x80", `"\c0\80"`},
	{"\xf0\x80\x80\x80", `"\f0\80\80\80"`},
	{"\xed\xa0\x80", `"\ed\a0\80"`},
	{"\xf4\x90\x80\x80", `"\f4\90\80\80"`},
	{"\xc3\"\xa9", `"\c3\"\a9"`},
}

func TestQuote(t *testing.T) {
	for _, c := range forms {
		if x := Quote(c.s); x != c.quoted {
			t.Errorf("Quote(%q) = %s; want %s", c.s, x, c.quoted)
		}
	}
}

func TestUnquote(t *testing.T) {
	for _, c := range forms {
		if x, err := Unquote(c.quoted); x != c.s || err != api.OK {
			t.Errorf("Unquote(%s) = %q, %d; want %q", c.quoted, x, err, c.s)
		}
	}
}

func TestUnquoteRefuses(t *testing.T) {
	for _, s := range []string{
		// No quotes about it.
		"", `"`, `\`, "a", " ", `a"`, `"a`, `a""`, `""a`, ` ""`, `"" `, `'a'`, `\"a\"`, "\ufffda\ufffd",
		// A " within, or one that a \ takes.
		`"""`, `""""`, `"a"b"`, `"a" "b"`, `"\"`, `"a\"`, `"\\\"`,
		// Digits that aren't there, or are none.
		`"\0"`, `"\f"`, `"\g"`, `"\x"`, `"\x41"`, `"\n"`, `"\0g"`, `"\g0"`, `"\ "`, `"\0 a"`, `"\é"`, `"\0é"`, `"\'"`, `"\u000a"`,
		// Not a to f.
		`"\0A"`, `"\0B"`, `"\FF"`, `"\Ff"`, `"\fF"`, `"\7F"`, `"\C3"`, "\"\\0\x00\"",
		// What stands as it is.
		`"\41"`, `"\20"`, `"\7e"`, `"\22"`, `"\5c"`, `"a\5cb"`,
		// Runes of several bytes.
		`"\c3\a9"`, `"a\c3\a9b"`, `"\c2\80"`, `"\e2\82\ac"`, `"\ef\bf\bd"`, `"\f0\9f\98\80"`, `"\f4\8f\bf\bf"`,
		// What doesn't stand as it is.
		"\"\n\"", "\"\x00\"", "\"\x1f\"", "\"\x7f\"", "\"\xff\"", "\"\xe2\x82\"", "\"\xc0\x80\"", "\"\xed\xa0\x80\"", "\"\xf4\x90\x80\x80\"",
		// Half of a rune told, half of it there.
		"\"\\c3\xa9\"", "\"\xc3\\a9\"", "\"\\e2\x82\xac\"", "\"\xe2\x82\\ac\"",
		"\\ff\\ff", `"\ff\ff" `,
	} {
		if x, err := Unquote(s); x != "" || err != api.ErrField {
			t.Errorf("Unquote(%q) = %q, %d; want ErrField", s, x, err)
		}
	}
}

func TestUnquoteOfEveryTwoDigits(t *testing.T) {
	const signs = "0123456789abcdefABCDEFgG/:@`"
	for _, high := range signs {
		for _, low := range signs {
			s := `"\` + string(high) + string(low) + `"`
			at, next := strings.IndexRune(signs[:16], high), strings.IndexRune(signs[:16], low)
			x := at*16 + next
			told := at >= 0 && next >= 0 && (x < 32 || x >= 127)
			y, err := Unquote(s)
			if told && (y != string([]byte{byte(x)}) || err != api.OK) || !told && (y != "" || err != api.ErrField) {
				t.Errorf("Unquote(%s) = %q, %d", s, y, err)
			}
		}
	}
}

func TestEveryRune(t *testing.T) {
	for r := rune(0); r <= 0x10ffff; r++ {
		if r < 0xd800 || r > 0xdfff {
			checkText(t, string(r))
		}
	}
}

func TestEveryTwoBytes(t *testing.T) {
	for x := range 256 {
		for y := range 256 {
			checkText(t, string([]byte{byte(x), byte(y)}))
		}
	}
}

// The bytes at which a form of UTF-8, or what may stand behind a byte, begins or ends.
func TestEdgesOfRunes(t *testing.T) {
	var parts []string
	for _, x := range []byte("\x00\x1f\x22\x5c\x7f\x80\x8f\x90\x9f\xa0\xbd\xbf\xc0\xc1\xc2\xdf\xe0\xe1\xed\xef\xf0\xf1\xf4\xf5\xff") {
		parts = append(parts, string([]byte{x}))
	}
	everyText(parts, 4, func(s string) { checkText(t, s) })
}

// P4.3

func TestWords(t *testing.T) {
	for _, c := range []struct {
		s    string
		want []string
	}{
		{"a", []string{"a"}},
		{"seq 7", []string{"seq", "7"}},
		{"a b c", []string{"a", "b", "c"}},
		{`seq 7 map 3 4 over 3 "a\00"`, []string{"seq", "7", "map", "3", "4", "over", "3", `"a\00"`}},
		{`""`, []string{`""`}},
		{`"" ""`, []string{`""`, `""`}},
		{`" "`, []string{`" "`}},
		{`"  "`, []string{`"  "`}},
		{`" a b " c`, []string{`" a b "`, "c"}},
		{`a"b c"d e`, []string{`a"b c"d`, "e"}},
		{`"a b""c d"`, []string{`"a b""c d"`}},
		{`"a" b "c"`, []string{`"a"`, "b", `"c"`}},
		{`"\""`, []string{`"\""`}},
		{`"a \" b" c`, []string{`"a \" b"`, "c"}},
		{`"\\" a`, []string{`"\\"`, "a"}},
		{`"\\\" " a`, []string{`"\\\" "`, "a"}},
		{`"a\ b" c`, []string{`"a\ b"`, "c"}},
		{`"\g0" a`, []string{`"\g0"`, "a"}},
		{"\"\\é b\" c", []string{"\"\\é b\"", "c"}},
		{"\"\\\xff\" c", []string{"\"\\\xff\"", "c"}},
		{"\"\\\xe2\x82\" c", []string{"\"\\\xe2\x82\"", "c"}},
		// Outside of quotes a \ is like any other rune.
		{`\`, []string{`\`}},
		{`\ a`, []string{`\`, "a"}},
		{`\\`, []string{`\\`}},
		{`\"a b"`, []string{`\"a b"`}},
		{`""\ a`, []string{`""\`, "a"}},
		// Runes of any kind, and stray bytes.
		{"é €", []string{"é", "€"}},
		{"\xff \xe2\x82", []string{"\xff", "\xe2\x82"}},
		{"\xe2 \x82", []string{"\xe2", "\x82"}},
		{"\ufffd \ufffd", []string{"\ufffd", "\ufffd"}},
		{"\"\xc3 \xa9\" a", []string{"\"\xc3 \xa9\"", "a"}},
		// No other rune is a blank, nor a ".
		{"a\tb\nc", []string{"a\tb\nc"}},
		{"\n \t", []string{"\n", "\t"}},
		{"a\x00b\x0bc\x0cd\re", []string{"a\x00b\x0bc\x0cd\re"}},
		{"a\u00a0b\u2003c\u3000d\u0085e", []string{"a\u00a0b\u2003c\u3000d\u0085e"}},
		{"a' b'", []string{"a'", "b'"}},
		{"“a b”", []string{"“a", "b”"}},
	} {
		if l, err := Words(c.s); !slices.Equal(l, c.want) || err != api.OK {
			t.Errorf("Words(%q) = %q, %d; want %q", c.s, l, err, c.want)
		}
	}
}

func TestWordsRefuses(t *testing.T) {
	for _, s := range []string{
		// A word is empty.
		"", " ", "  ", "   ", " a", "a ", "  a", "a  ", "a  b", "a   b", "a b ", " a b", "a b  c", `"a" `, ` "a"`, `"a"  "b"`, "é ", "\xff ", " \xff",
		// Quotes aren't ended.
		`"`, `"a`, `a"`, `a "`, `a" `, `"a" "`, `"a b`, `"""`, `""a"`, "\"\xff", "\"é",
		// A " that a \ takes along ends none.
		`"\"`, `"a\"`, `"\\\"`, `"\" a`, `\"`, `\"a b`,
		// What a \ begins isn't ended.
		`"\`, `"a\`, `a "b\`, `"\\\`,
	} {
		if l, err := Words(s); len(l) != 0 || err != api.ErrField {
			t.Errorf("Words(%q) = %q, %d; want ErrField", s, l, err)
		}
	}
}

// wordsByHand answers the words of s: what is quoted is cut out as a whole, by where its quotes end.
func wordsByHand(s string) ([]string, bool) {
	words := []string{""}
	for len(s) > 0 {
		n := 1
		switch s[0] {
		case ' ':
			words = append(words, "")
			s = s[1:]
			continue
		case '"':
			for n < len(s) && s[n] != '"' {
				if s[n] == '\\' {
					n++
				}
				n++
			}
			if n >= len(s) {
				return nil, false
			}
			n++
		}
		words[len(words)-1] += s[:n]
		s = s[n:]
	}
	if slices.Contains(words, "") {
		return nil, false
	}
	return words, true
}

func TestWordsOfEveryShortText(t *testing.T) {
	some := 0
	everyText([]string{" ", `"`, `\`, "a", "é", "\xff"}, 7, func(s string) {
		want, ok := wordsByHand(s)
		l, err := Words(s)
		if ok && (err != api.OK || !slices.Equal(l, want)) || !ok && (err != api.ErrField || len(l) != 0) {
			t.Fatalf("Words(%q) = %q, %d; want %q", s, l, err, want)
		}
		if len(l) > 1 {
			some++
		}
	})
	if some == 0 {
		t.Error("no text had several words")
	}
}

func TestManyWords(t *testing.T) {
	want := strings.Split(strings.Repeat(`a,"b c",`, 10000)+"d", ",")
	if l, err := Words(strings.Join(want, " ")); !slices.Equal(l, want) || err != api.OK {
		t.Errorf("%d words, %d; want %d", len(l), err, len(want))
	}
}

// chance answers some text, of signs that are looked at as often as of others.
func chance(r *rand.Rand) string {
	parts := []string{`"`, `\`, " ", "0", "a", "f", "A", "é", "€", "\ufffd", "\U0001f600", "\n", "\x7f", "\xe2", "\x82", "\xac", "\xff"}
	s := ""
	for range r.Intn(12) {
		s += parts[r.Intn(len(parts))]
	}
	return s
}

// What is quoted is one word, whatever it has.
func TestQuotedTextsAreWords(t *testing.T) {
	r := rand.New(rand.NewSource(5))
	for range 5000 {
		var texts, want []string
		for range 1 + r.Intn(5) {
			texts = append(texts, chance(r))
			want = append(want, Quote(texts[len(texts)-1]))
		}
		l, err := Words(strings.Join(want, " "))
		if !slices.Equal(l, want) || err != api.OK {
			t.Fatalf("Words of %q quoted = %q, %d", texts, l, err)
		}
	}
}

// P4.4

func TestTextsAreReadAsTheyWere(t *testing.T) {
	r := rand.New(rand.NewSource(6))
	for range 20000 {
		s := chance(r)
		checkText(t, s)
		b := make([]byte, r.Intn(20))
		r.Read(b)
		checkText(t, string(b))
	}
	long := strings.Repeat("a\"\\\n€\xff", 100000)
	if x, err := Unquote(Quote(long)); x != long || err != api.OK {
		t.Errorf("%d bytes, %d; want %d", len(x), err, len(long))
	}
}

func TestNoOtherTextHasAQuotedForm(t *testing.T) {
	of := map[string]string{}
	everyText([]string{`"`, `\`, "0", "a", "c", "3", "\n", "é", "\xc3", "\xa9"}, 4, func(s string) {
		q := Quote(s)
		if x, is := of[q]; is && x != s {
			t.Fatalf("Quote(%q) and Quote(%q) = %s", x, s, q)
		}
		of[q] = s
	})
}

// Whatever is read as a quoted form is the one that the text has.
func TestEachTextHasOneQuotedForm(t *testing.T) {
	read := 0
	parts := []string{`\`, `"`, "0", "a", "A", "c3", "a9", "é", "\n", "\xa9"}
	everyText(parts, 5, func(s string) {
		s = `"` + s + `"`
		x, err := Unquote(s)
		if err == api.OK {
			read++
		}
		if err == api.OK && Quote(x) != s || err != api.OK && (err != api.ErrField || x != "") {
			t.Fatalf("Unquote(%q) = %q, %d", s, x, err)
		}
	})
	if read == 0 {
		t.Error("no form was read")
	}
}
