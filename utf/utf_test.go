package utf_test

import (
	"encoding/json"
	"strings"
	"testing"
	"unicode/utf8"

	"introit/api"
	"introit/utf"
)

// P1.1: Good and Runes.

func TestGoodAndRunes(t *testing.T) {
	for _, c := range []struct {
		name, s string
		runes   int
	}{
		{"empty", "", 0},
		{"ASCII", "abc", 3},
		{"byte 0", "\x00", 1},
		{"byte 127", "\x7f", 1},
		{"all lengths", "a\u00e4\u20ac\U0001f600", 4},
		{"least of two bytes", "\xc2\x80", 1},
		{"greatest of two bytes", "\xdf\xbf", 1},
		{"least of three bytes", "\xe0\xa0\x80", 1},
		{"greatest of three bytes", "\xef\xbf\xbf", 1},
		{"least of four bytes", "\xf0\x90\x80\x80", 1},
		{"U+10FFFF", "\xf4\x8f\xbf\xbf", 1},
		{"U+FFFD itself", "\xef\xbf\xbd", 1},
		{"before the surrogates", "\xed\x9f\xbf", 1},
		{"after the surrogates", "\xee\x80\x80", 1},
		{"a single continuation byte", "\x80", -1},
		{"a continuation byte too many", "\xc3\xa4\xa4", -1},
		{"two bytes for U+0000", "\xc0\x80", -1},
		{"two bytes for U+007F", "\xc1\xbf", -1},
		{"three bytes for U+0000", "\xe0\x80\x80", -1},
		{"three bytes for U+07FF", "\xe0\x9f\xbf", -1},
		{"four bytes for U+0000", "\xf0\x80\x80\x80", -1},
		{"four bytes for U+FFFF", "\xf0\x8f\xbf\xbf", -1},
		{"first high surrogate", "\xed\xa0\x80", -1},
		{"last high surrogate", "\xed\xaf\xbf", -1},
		{"first low surrogate", "\xed\xb0\x80", -1},
		{"last low surrogate", "\xed\xbf\xbf", -1},
		{"a pair of surrogates", "\xed\xa0\xbd\xed\xb8\x80", -1},
		{"U+110000", "\xf4\x90\x80\x80", -1},
		{"U+1FFFFF", "\xf7\xbf\xbf\xbf", -1},
		{"five bytes", "\xf8\x88\x80\x80\x80", -1},
		{"six bytes", "\xfc\x84\x80\x80\x80\x80", -1},
		{"byte 254", "\xfe", -1},
		{"byte 255", "\xff", -1},
		{"one of two bytes", "a\xc3", -1},
		{"two of three bytes", "a\xe2\x82", -1},
		{"three of four bytes", "a\xf0\x9f\x98", -1},
		{"another first byte in place of a continuation", "\xe2\x82\xc3\xa4", -1},
		{"ASCII in place of a continuation", "\xc3a", -1},
		{"a defect at the end", "abc\xff", -1},
		{"a defect at the beginning", "\xffabc", -1},
	} {
		if got := utf.Runes(c.s); got != c.runes {
			t.Errorf("%s: Runes(%q) = %d, want %d", c.name, c.s, got, c.runes)
		}
		if got := utf.Good(c.s); got != (c.runes >= 0) {
			t.Errorf("%s: Good(%q) = %v, want %v", c.name, c.s, got, c.runes >= 0)
		}
	}
}

// likeLibrary holds Good and Runes against the library's own.
func likeLibrary(t *testing.T, s string) {
	want := -1
	if utf8.ValidString(s) {
		want = utf8.RuneCountInString(s)
	}
	if utf.Runes(s) != want || utf.Good(s) != (want >= 0) {
		t.Fatalf("%q: Good %v, Runes %d, want Runes %d", s, utf.Good(s), utf.Runes(s), want)
	}
}

func TestGoodForAllStringsOfTwoBytes(t *testing.T) {
	for a := range 256 {
		likeLibrary(t, string([]byte{byte(a)}))
		for b := range 256 {
			likeLibrary(t, string([]byte{byte(a), byte(b)}))
		}
	}
}

func TestGoodAtTheBordersOfBytes(t *testing.T) {
	edges := []byte{0, 'a', 0x7f, 0x80, 0x8f, 0x90, 0x9f, 0xa0, 0xbf, 0xc0, 0xc1, 0xc2, 0xdf, 0xe0, 0xe1, 0xec, 0xed, 0xee, 0xef, 0xf0, 0xf1, 0xf3, 0xf4, 0xf5, 0xf7, 0xf8, 0xff}
	for _, a := range edges {
		for _, b := range edges {
			for _, c := range edges {
				likeLibrary(t, string([]byte{a, b, c}))
				for _, d := range edges {
					likeLibrary(t, string([]byte{a, b, c, d}))
				}
			}
		}
	}
}

// P1.1: Less.

func TestLess(t *testing.T) {
	ascending := []string{"", "\x00", "\x00\x00", "\x01", "A", "Z", "a", "a\x00", "ab", "aba", "abb", "b", "\x7f", "\u0080", "\u07ff", "\u0800", "\ud7ff", "\ue000", "\uffff", "\U00010000", "\U0010ffff", "\xff", "\xff\x00", "\xff\xff"}
	for i, a := range ascending {
		for j, b := range ascending {
			if got := utf.Less(a, b); got != (i < j) {
				t.Errorf("Less(%q, %q) = %v, want %v", a, b, got, i < j)
			}
		}
	}
}

// P1.2: Quote.

func TestQuote(t *testing.T) {
	for _, c := range []struct{ s, want string }{
		{"", `""`},
		{"abc", `"abc"`},
		{`a"b`, `"a\"b"`},
		{`"`, `"\""`},
		{`\`, `"\\"`},
		{`\"`, `"\\\""`},
		{`\n`, `"\\n"`},
		{"/", `"/"`},
		{" <>&'", `" <>&'"`},
		{"\x7f", "\"\x7f\""},
		{"\u0080\u2028\u2029\ufeff\ufffd\uffff", "\"\u0080\u2028\u2029\ufeff\ufffd\uffff\""},
		{"\u00e4\u20ac\U0001f600\U0010ffff", "\"\u00e4\u20ac\U0001f600\U0010ffff\""},
		{"a\nb\"\u00e4\x01", "\"a\\nb\\\"\u00e4\\u0001\""},
	} {
		if got, e := utf.Quote(c.s); got != c.want || e != api.OK {
			t.Errorf("Quote(%q) = %q, %v, want %q", c.s, got, e, c.want)
		}
	}
}

func TestQuoteOfEachByteBelow32(t *testing.T) {
	want := strings.Fields(`
		\u0000 \u0001 \u0002 \u0003 \u0004 \u0005 \u0006 \u0007 \b \t \n \u000b \f \r \u000e \u000f
		\u0010 \u0011 \u0012 \u0013 \u0014 \u0015 \u0016 \u0017 \u0018 \u0019 \u001a \u001b \u001c \u001d \u001e \u001f`)
	for b, w := range want {
		if got, e := utf.Quote(string(rune(b))); got != `"`+w+`"` || e != api.OK {
			t.Errorf("byte %d: %q, %v, want %s", b, got, e, w)
		}
	}
	for b := rune(32); b < 128; b++ {
		if b == '"' || b == '\\' {
			continue
		}
		if got, e := utf.Quote(string(b)); got != `"`+string(b)+`"` || e != api.OK {
			t.Errorf("byte %d: %q, %v", b, got, e)
		}
	}
}

func TestQuoteRejectsIllFormed(t *testing.T) {
	for _, s := range []string{"\xff", "abc\x80", "\xc0\x80", "\xed\xa0\x80", "\xf4\x90\x80\x80", "\xe2\x82", "\"\xc3\""} {
		if got, e := utf.Quote(s); got != "" || e != api.ErrForm {
			t.Errorf("Quote(%q) = %q, %v, want ErrForm alone", s, got, e)
		}
	}
}

// P1.3: Unquote.

func TestUnquote(t *testing.T) {
	for _, c := range []struct {
		s, want string
		n       int
	}{
		{`""`, "", 2},
		{`"abc"`, "abc", 5},
		{`"\"\\\/\b\t\n\f\r"`, "\"\\/\b\t\n\f\r", 18},
		{`"/"`, "/", 3},
		{`"\\u0041"`, `\u0041`, 9},
		{`"\\"`, `\`, 4},
		{`"\\\""`, `\"`, 6},
		{"\"\u00e4\u20ac\U0001f600\U0010ffff\"", "\u00e4\u20ac\U0001f600\U0010ffff", 15},
		{"\" \x7f\"", " \x7f", 4},
		{`"\u0041x"`, "Ax", 9},
		{`"\u0022\u005c\u002f"`, `"\/`, 20},
		{`"\u0000\u001f\u000a"`, "\x00\x1f\n", 20},
		{`"\u00e4\u00E4"`, "\u00e4\u00e4", 14},
		{`"\uabcd\uABCD\uAbCd\uefEF"`, "\uabcd\uabcd\uabcd\uefef", 26},
		{`"\u0123\u4567\u89ab"`, "\u0123\u4567\u89ab", 20},
		{`"\u007f\u0080\u07ff\u0800\uffff"`, "\u007f\u0080\u07ff\u0800\uffff", 32},
		{`"\ud7ff\ue000"`, "\ud7ff\ue000", 14},
		{`"\ud83d\ude00"`, "\U0001f600", 14},
		{`"\uD83D\uDE00"`, "\U0001f600", 14},
		{`"\uD83d\udE00"`, "\U0001f600", 14},
		{`"\ud800\udc00"`, "\U00010000", 14},
		{`"\ud800\udfff"`, "\U000103ff", 14},
		{`"\udbff\udc00"`, "\U0010fc00", 14},
		{`"\udbff\udfff"`, "\U0010ffff", 14},
		{`"\ud83d\ude00\ud83d\ude01"`, "\U0001f600\U0001f601", 26},
	} {
		if got, n, e := utf.Unquote(c.s); got != c.want || n != c.n || e != api.OK {
			t.Errorf("Unquote(%q) = %q, %d, %v, want %q, %d", c.s, got, n, e, c.want, c.n)
		}
	}
}

func TestUnquoteDoesNotExamineWhatFollows(t *testing.T) {
	for _, after := range []string{"", " ", "x", `"`, `"b"`, `\`, "\x00", "\n", "\xff", "\x80", "\xed\xa0\x80", `\ude00"`, `,"b":1}`} {
		if got, n, e := utf.Unquote(`"a\u0041"` + after); got != "aA" || n != 9 || e != api.OK {
			t.Errorf("followed by %q: %q, %d, %v", after, got, n, e)
		}
	}
}

func TestUnquoteRejects(t *testing.T) {
	wrong := map[string][]string{
		"no quotation mark first": {"", "a", `a""`, ` ""`, "'a'", `\"a"`, "\x00", "\xff\"a\"", "null"},
		"no end":                  {`"`, `"a`, `"a\"`, `"\`, `"\u`, `"\u0`, `"\u00`, `"\u004`, `"\u0041`, `"\ud83d`, `"\ud83d\`, `"\ud83d\u`, `"\ud83d\ude0`, `"\ud83d\ude00`, "\"\xc3", "\"\u00e4"},
		"another escape":          {`"\x"`, `"\a"`, `"\v"`, `"\0"`, `"\'"`, `"\U0041"`, `"\B"`, `"\N"`, `"\ "`, "\"\\\n\"", "\"\\\x00\"", "\"\\\u00e4\""},
		"not four digits":         {`"\u"`, `"\u1"`, `"\u12"`, `"\u123"`, `"\u12g4"`, `"\ug123"`, `"\u123g"`, `"\u+123"`, `"\u 123"`, `"\u{41}"`, `"\u00:0"`, `"\u00/0"`, `"\u00@0"`, "\"\\u00`0\"", `"\u00G0"`},
		"a single surrogate":      {`"\ud800"`, `"\udbff"`, `"\udc00"`, `"\udfff"`, `"\uD83D"`, `"\uDE00"`, `"\ud83dx"`, `"\ud83dxude00"`, `"\ud83d\n"`, `"\ud83d\\ude00"`, `"\ud83d\xde00"`, `"\ud83d\u0041"`, `"\ud83d\udbff"`, `"\ud83d\ue000"`, `"\ud83d\ud83d\ude00"`, `"\ude00\ud83d"`, `"\udc00\udc00"`, `"\udc00\udfff"`, `"\udfff\udc00"`, `"\ud83d \ude00"`, `"\ud83d\udeg0"`, `"\ud83d\ude00\ude00"`, "\"\\ud83d\xed\xb8\x80\""},
		"ill-formed UTF-8":        {"\"\xff\"", "\"\x80\"", "\"\xc3\"", "\"\xc0\x80\"", "\"\xc0\xa2\"", "\"\xed\xa0\x80\"", "\"\xf4\x90\x80\x80\"", "\"\xe2\x82\"\x82\"", "\"\xc3\\u00a4\"", "\"a\xf0\x9f\x98\""},
	}
	for b := range 32 {
		wrong["a byte below 32"] = append(wrong["a byte below 32"], "\""+string(rune(b))+"\"", "\"a"+string(rune(b))+"b\"")
	}
	for name, list := range wrong {
		for _, s := range list {
			if got, n, e := utf.Unquote(s); got != "" || n != 0 || e != api.ErrForm {
				t.Errorf("%s: Unquote(%q) = %q, %d, %v, want ErrForm alone", name, s, got, n, e)
			}
		}
	}
}

func TestUnquoteOfEachNumber(t *testing.T) {
	for c := range rune(0x10000) {
		s := `"\u` + fourHex(c) + `"`
		want, n, err := string(c), 8, api.OK
		if c >= 0xd800 && c <= 0xdfff {
			want, n, err = "", 0, api.ErrForm
		}
		for _, x := range []string{s, `"\u` + strings.ToUpper(fourHex(c)) + `"`} {
			if got, m, e := utf.Unquote(x); got != want || m != n || e != err {
				t.Fatalf("Unquote(%s) = %q, %d, %v", x, got, m, e)
			}
		}
	}
}

func TestUnquoteOfEachPair(t *testing.T) {
	for c := rune(0x10000); c <= 0x10ffff; c++ {
		high, low := 0xd800+(c-0x10000)/0x400, 0xdc00+(c-0x10000)%0x400
		s := `"\u` + fourHex(high) + `\u` + fourHex(low) + `"`
		if got, n, e := utf.Unquote(s); got != string(c) || n != 14 || e != api.OK {
			t.Fatalf("Unquote(%s) = %q, %d, %v, want U+%X", s, got, n, e, c)
		}
	}
}

func fourHex(c rune) string {
	const digits = "0123456789abcdef"
	return string([]byte{digits[c>>12], digits[c>>8&15], digits[c>>4&15], digits[c&15]})
}

// P1.2 and P1.3 together.

func TestQuoteAndBack(t *testing.T) {
	var all strings.Builder
	for c := range rune(0x110000) {
		if c >= 0xd800 && c <= 0xdfff {
			continue
		}
		all.WriteRune(c)
	}
	s := all.String()
	q, e := utf.Quote(s)
	if e != api.OK {
		t.Fatal(e)
	}
	var library string
	if err := json.Unmarshal([]byte(q), &library); err != nil || library != s {
		t.Errorf("the library reads something else: %v", err)
	}
	if got, n, e := utf.Unquote(q + q); got != s || n != len(q) || e != api.OK {
		t.Errorf("Unquote of Quote: %d bytes of %d, length %d of %d, %v", len(got), len(s), n, len(q), e)
	}
}
