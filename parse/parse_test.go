package parse_test

import (
	"math"
	"strings"
	"testing"

	"introit/api"
	"introit/parse"
	"introit/value"
)

func member(key string, v api.Value) api.Member { return api.Member{Key: key, V: v} }

// read parses s with just enough bytes allowed. It holds what every result has to keep: P3.3, and nothing beside an error.
func read(t *testing.T, s string) (api.Value, api.Errno) {
	t.Helper()
	v, e := parse.Parse(s, len(s))
	if e == api.OK && !value.Good(v) {
		t.Errorf("Parse(%q) = %+v, which is not valid", s, v)
	}
	if e != api.OK && (v.Kind != 0 || v.N != 0 || v.S != "" || len(v.L) != 0 || len(v.M) != 0) {
		t.Errorf("Parse(%q) = %+v beside %v", s, v, e)
	}
	return v, e
}

func wantValue(t *testing.T, s string, want api.Value) {
	t.Helper()
	if got, e := read(t, s); e != api.OK || !value.Same(got, want) {
		t.Errorf("Parse(%q) = %+v, %v, want %+v", s, got, e, want)
	}
}

func wantError(t *testing.T, want api.Errno, texts ...string) {
	t.Helper()
	for _, s := range texts {
		if got, e := read(t, s); e != want {
			t.Errorf("Parse(%q) = %+v, %v, want %v", s, got, e, want)
		}
	}
}

// P3.1: the value that a text denotes.

func TestValues(t *testing.T) {
	one, two := value.Int(1), value.Int(2)
	for s, want := range map[string]api.Value{
		`null`:                      {},
		`true`:                      value.Bool(true),
		`false`:                     value.Bool(false),
		`7`:                         value.Int(7),
		`""`:                        value.Text(""),
		`"a"`:                       value.Text("a"),
		`"\u0041\n\"\\\/"`:          value.Text("A\n\"\\/"),
		`"\ud83d\ude00"`:            value.Text("\U0001f600"),
		"\"\u00e4\U0001f600\"":      value.Text("\u00e4\U0001f600"),
		`" a "`:                     value.Text(" a "),
		`"[1,{}"`:                   value.Text("[1,{}"),
		`[]`:                        value.List(),
		`{}`:                        value.Map(),
		`[1]`:                       value.List(one),
		`[2,1,2]`:                   value.List(two, one, two),
		`[null,true,false,0,"",[]]`: value.List(api.Value{}, value.Bool(true), value.Bool(false), value.Int(0), value.Text(""), value.List()),
		`[[],[[]],{}]`:              value.List(value.List(), value.List(value.List()), value.Map()),
		`{"a":1}`:                   value.Map(member("a", one)),
		`{"":null}`:                 value.Map(member("", api.Value{})),
		`{"a":[],"b":{}}`:           value.Map(member("a", value.List()), member("b", value.Map())),
		`{"a":{"a":{"a":1}}}`:       value.Map(member("a", value.Map(member("a", value.Map(member("a", one)))))),
		`[{"a":1},{"a":2}]`:         value.List(value.Map(member("a", one)), value.Map(member("a", two))),
	} {
		wantValue(t, s, want)
	}
}

func TestMembersAreSorted(t *testing.T) {
	v, _ := read(t, `{"b":1,"\uffff":2,"":3,"\ud800\udc00":4,"a":5,"ab":6,"A":7,"\u0000":8}`)
	want := []api.Member{
		member("", value.Int(3)), member("\x00", value.Int(8)), member("A", value.Int(7)), member("a", value.Int(5)),
		member("ab", value.Int(6)), member("b", value.Int(1)), member("\uffff", value.Int(2)), member("\U00010000", value.Int(4)),
	}
	if !value.Same(v, api.Value{Kind: api.Map, M: want}) {
		t.Errorf("members %+v, want %+v", v.M, want)
	}
	wantValue(t, `[{"b":{"d":1,"c":2},"a":3}]`, value.List(api.Value{Kind: api.Map, M: []api.Member{
		member("a", value.Int(3)),
		member("b", api.Value{Kind: api.Map, M: []api.Member{member("c", value.Int(2)), member("d", value.Int(1))}}),
	}}))
}

// P3.1: size.

func TestSize(t *testing.T) {
	for _, s := range []string{"1", " 1", "[]", `{"a":[1, 2]}`, "\t\r\n null "} {
		for _, most := range []int{len(s), len(s) + 1, math.MaxInt} {
			if _, e := parse.Parse(s, most); e != api.OK {
				t.Errorf("Parse(%q, %d): %v", s, most, e)
			}
		}
	}
	// ErrSize is told ahead of every defect.
	for _, s := range []string{"1", " 1", "[]", "x", "1.0", "\xff", `{"a":1,"a":2}`, strings.Repeat("[", 51), " ", "\""} {
		for _, most := range []int{len(s) - 1, 0, -1, -len(s), math.MinInt} {
			if v, e := parse.Parse(s, most); e != api.ErrSize || v.Kind != 0 || v.N != 0 {
				t.Errorf("Parse(%q, %d) = %+v, %v, want ErrSize", s, most, v, e)
			}
		}
	}
	for _, most := range []int{0, -1, math.MinInt, 1} {
		if _, e := parse.Parse("", most); e != api.ErrForm {
			t.Errorf("the empty text, at most %d: %v, want ErrForm", most, e)
		}
	}
}

// P3.1: white space.

// tokens are those of a text with every place at which white space may occur.
var tokens = []string{"{", `"a"`, ":", "[", "1", ",", "-20", ",", `"x y"`, ",", "null", ",", "true", ",", "false", "]", ",", `"b"`, ":", "{", "}", ",", `"c"`, ":", "[", "]", ",", `"d"`, ":", `""`, "}"}

func TestWhiteSpaceBetweenTokens(t *testing.T) {
	want, e := read(t, strings.Join(tokens, ""))
	if e != api.OK {
		t.Fatal(e)
	}
	for _, space := range []string{" ", "\t", "\n", "\r", "\r\n", " \t\n\r \t\n\r", strings.Repeat(" ", 1000)} {
		wantValue(t, space+strings.Join(tokens, space)+space, want)
		for at := range len(tokens) + 1 {
			wantValue(t, strings.Join(tokens[:at], "")+space+strings.Join(tokens[at:], ""), want)
		}
	}
}

func TestNoOtherWhiteSpace(t *testing.T) {
	for _, space := range []string{"\v", "\f", "\b", "\x00", "\x1f", "\x7f", "\x85", "\xa0", "\u0085", "\u00a0", "\u2028", "\u2029", "\u3000", "\ufeff", "//\n", "/**/", "#\n", "\\n"} {
		for at := range len(tokens) + 1 {
			wantError(t, api.ErrForm, strings.Join(tokens[:at], "")+space+strings.Join(tokens[at:], ""))
		}
	}
}

func TestNoWhiteSpaceWithinTokens(t *testing.T) {
	for _, space := range []string{" ", "\t", "\n", "\r"} {
		for _, word := range []string{"null", "true", "false"} {
			for at := 1; at < len(word); at++ {
				wantError(t, api.ErrForm, word[:at]+space+word[at:], "["+word[:at]+space+word[at:]+"]")
			}
		}
		wantError(t, api.ErrForm, "1"+space+"2", "[1"+space+"2]", "[0"+space+"0]", "[1"+space+"e2]", `{"a":1`+space+`2}`)
		wantError(t, api.ErrNumber, "-"+space+"1", "[-"+space+"1]")
		wantError(t, api.ErrForm, `"\`+space+`n"`, `"\u00`+space+`41"`)
	}
	wantValue(t, `{" a ":" b "}`, value.Map(member(" a ", value.Text(" b "))))
	wantError(t, api.ErrForm, "\"\t\"", "\"\n\"", "\"\r\"", "{\"\t\":1}")
}

// R4: results are memory of their own.

func TestResultsAreNewMemory(t *testing.T) {
	const s = `{"a":[1,2],"b":[1,2]}`
	first, _ := read(t, s)
	second, _ := read(t, s)
	first.M[0].V.L[0] = value.Text("changed")
	_ = append(first.M[0].V.L, value.Text("changed"))
	first.M[1] = member("changed", api.Value{})
	want := value.List(value.Int(1), value.Int(2))
	if !value.Same(second, value.Map(member("a", want), member("b", want))) {
		t.Errorf("a second result has become %+v", second)
	}
}
