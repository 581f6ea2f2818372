package canon_test

import (
	"fmt"
	"math"
	"slices"
	"strings"
	"testing"

	"introit/api"
	"introit/canon"
	"introit/parse"
	"introit/utf"
	"introit/value"
)

func member(key string, v api.Value) api.Member { return api.Member{Key: key, V: v} }

// raw is a Map as it is written down: neither sorted nor without duplicates.
func raw(m ...api.Member) api.Value { return api.Value{Kind: api.Map, M: m} }

// wantText checks what Write returns for a valid value, and all that follows from it: Len, Is, and P4.2's way back.
func wantText(t *testing.T, v api.Value, want string) {
	t.Helper()
	if got, e := canon.Write(v); got != want || e != api.OK {
		t.Fatalf("Write(%+v) = %q, %v, want %q", v, got, e, want)
	}
	if got := canon.Len(v); got != len(want) {
		t.Fatalf("Len(%+v) = %d, want %d", v, got, len(want))
	}
	if !canon.Is(want) {
		t.Fatalf("Is(%q) is false", want)
	}
	if back, e := parse.Parse(want, len(want)); e != api.OK || !value.Same(back, v) {
		t.Fatalf("Parse(%q) = %+v, %v, want %+v", want, back, e, v)
	}
}

// wantRefused checks that v is refused, alone and at places within another value.
func wantRefused(t *testing.T, name string, v api.Value) {
	t.Helper()
	one := value.Int(1)
	for place, x := range map[string]api.Value{
		"alone":                v,
		"alone in a List":      value.List(v),
		"first in a List":      value.List(v, one),
		"last in a List":       value.List(one, one, v),
		"first in a Map":       value.Map(member("a", v), member("b", one)),
		"last in a Map":        value.Map(member("a", one), member("b", v)),
		"far within Lists":     nested(api.MaxDepth-1, v, inList),
		"far within Maps":      nested(api.MaxDepth-1, v, inMap),
		"within both by turns": nested(20, value.List(one, nested(1, v, inMap)), inMap),
	} {
		if s, e := canon.Write(x); s != "" || e != api.ErrArg {
			t.Errorf("%s, %s: Write = %q, %v, want ErrArg alone", name, place, s, e)
		}
		if n := canon.Len(x); n != 0 {
			t.Errorf("%s, %s: Len = %d, want 0", name, place, n)
		}
	}
}

func inList(v api.Value) api.Value { return value.List(v) }

func inMap(v api.Value) api.Value { return value.Map(member("a", v)) }

func nested(levels int, v api.Value, in func(api.Value) api.Value) api.Value {
	for range levels {
		v = in(v)
	}
	return v
}

// P4.1: Write and Len of valid values.

func TestKinds(t *testing.T) {
	wantText(t, api.Value{}, `null`)
	wantText(t, value.Bool(true), `true`)
	wantText(t, value.Bool(false), `false`)
	wantText(t, value.Int(7), `7`)
	wantText(t, value.Text("a"), `"a"`)
	wantText(t, value.List(), `[]`)
	wantText(t, value.Map(), `{}`)
	wantText(t, value.List(value.Int(1)), `[1]`)
	wantText(t, value.Map(member("a", value.Int(1))), `{"a":1}`)
	wantText(t, value.Map(member("a", value.Int(1)), member("b", value.List())), `{"a":1,"b":[]}`)
	all := []api.Value{{}, value.Bool(true), value.Bool(false), value.Int(-12), value.Text(""), value.List(), value.Map()}
	wantText(t, value.List(all...), `[null,true,false,-12,"",[],{}]`)
	var m []api.Member
	for i, v := range all {
		m = append(m, member(string(rune('a'+i)), v))
	}
	wantText(t, value.Map(m...), `{"a":null,"b":true,"c":false,"d":-12,"e":"","f":[],"g":{}}`)
}

func TestEmptySlicesAreLikeNilOnes(t *testing.T) {
	for kind, want := range []string{"null", "false", "0", `""`, "[]", "{}"} {
		wantText(t, api.Value{Kind: kind, L: []api.Value{}, M: []api.Member{}}, want)
	}
}

func TestIntegers(t *testing.T) {
	for n, want := range map[int64]string{
		0: "0", 1: "1", -1: "-1", 9: "9", 10: "10", -10: "-10", 100: "100", 999: "999", -1000: "-1000", 1234567890: "1234567890",
		1 << 31: "2147483648", -1 << 31: "-2147483648", 1 << 32: "4294967296", 1e15: "1000000000000000",
		api.MaxInt - 1: "9007199254740990", api.MaxInt: "9007199254740991", -api.MaxInt: "-9007199254740991",
	} {
		wantText(t, value.Int(n), want)
		wantText(t, value.List(value.Int(n), value.Int(n)), "["+want+","+want+"]")
		wantText(t, value.Map(member("n", value.Int(n))), `{"n":`+want+`}`)
	}
}

// wantString checks s as a Text, as a key, and within other values.
func wantString(t *testing.T, s, literal string) {
	t.Helper()
	if q, e := utf.Quote(s); q != literal || e != api.OK {
		t.Fatalf("Quote(%q) = %q, %v, want %q", s, q, e, literal)
	}
	wantText(t, value.Text(s), literal)
	wantText(t, value.List(value.Text(s), value.Text(s)), "["+literal+","+literal+"]")
	wantText(t, value.Map(member(s, value.Text(s))), "{"+literal+":"+literal+"}")
	wantText(t, value.List(value.Map(member(s, api.Value{}))), "[{"+literal+":null}]")
}

func TestStrings(t *testing.T) {
	for s, literal := range map[string]string{
		"":                 `""`,
		"abc":              `"abc"`,
		" ":                `" "`,
		"/":                `"/"`,
		"<&>'":             `"<&>'"`,
		`"`:                `"\""`,
		`\`:                `"\\"`,
		`\"`:               `"\\\""`,
		`\u0041`:           `"\\u0041"`,
		`a"b\c`:            `"a\"b\\c"`,
		"\x7f":             "\"\x7f\"",
		"\u0080\u00e4":     "\"\u0080\u00e4\"",
		"\u07ff":           "\"\u07ff\"",
		"\u0800\u20ac":     "\"\u0800\u20ac\"",
		"\u2028\u2029":     "\"\u2028\u2029\"",
		"\ufeff\ufffd":     "\"\ufeff\ufffd\"",
		"\ud7ff\ue000":     "\"\ud7ff\ue000\"",
		"\uffff":           "\"\uffff\"",
		"\U00010000":       "\"\U00010000\"",
		"\U0001f600":       "\"\U0001f600\"",
		"\U0010ffff":       "\"\U0010ffff\"",
		"{\"a\":[1,null]}": `"{\"a\":[1,null]}"`,
	} {
		wantString(t, s, literal)
	}
}

func TestEachByteBelow32(t *testing.T) {
	short := map[int]string{8: `\b`, 9: `\t`, 10: `\n`, 12: `\f`, 13: `\r`}
	for b := range 32 {
		escape := short[b]
		if escape == "" {
			escape = fmt.Sprintf(`\u%04x`, b)
		}
		s := string(rune(b))
		wantString(t, s, `"`+escape+`"`)
		wantString(t, "a"+s+"\u00e4"+s, `"a`+escape+"\u00e4"+escape+`"`)
	}
}

func TestOrder(t *testing.T) {
	one, two := value.Int(1), value.Int(2)
	wantText(t, value.List(two, one, two), `[2,1,2]`)
	keys := []string{"", "\x00", "\t", " ", "\"", "A", "\\", "a", "a\x00", "a\"", "aa", "ab", "b", "\x7f", "\u0080", "\uffff", "\U00010000"}
	var m []api.Member
	var items []string
	for i, k := range keys {
		q, _ := utf.Quote(k)
		m = append(m, member(k, value.Int(int64(i))))
		items = append(items, q+":"+fmt.Sprint(i))
	}
	want := "{" + strings.Join(items, ",") + "}"
	wantText(t, raw(m...), want)
	slices.Reverse(m)
	wantText(t, value.Map(m...), want)
	wantText(t, value.Map(member("b", value.Map(member("d", one), member("c", two))), member("a", value.List(value.Map(member("z", one), member("y", two))))),
		`{"a":[{"y":2,"z":1}],"b":{"c":2,"d":1}}`)
}

func TestDepth(t *testing.T) {
	const most = 50
	for levels := range most + 1 {
		wantText(t, nested(levels, value.Int(1), inList), strings.Repeat("[", levels)+"1"+strings.Repeat("]", levels))
		wantText(t, nested(levels, value.Int(1), inMap), strings.Repeat(`{"a":`, levels)+"1"+strings.Repeat("}", levels))
	}
	wantText(t, nested(most-1, value.List(), inList), strings.Repeat("[", most)+strings.Repeat("]", most))
	wantText(t, nested(most-1, value.Map(), inList), strings.Repeat("[", most-1)+"{}"+strings.Repeat("]", most-1))
	wantText(t, nested(most-1, value.List(), inMap), strings.Repeat(`{"a":`, most-1)+"[]"+strings.Repeat("}", most-1))
	for name, v := range map[string]api.Value{
		"a List one level deeper":  nested(most, value.List(), inList),
		"a Map one level deeper":   nested(most, value.Map(), inMap),
		"a List within Maps":       nested(most, value.List(), inMap),
		"a Map within Lists":       nested(most, value.Map(), inList),
		"a plain value too deep":   nested(most+1, value.Int(1), inMap),
		"as deep as the limits go": nested(1<<16, value.Int(1), inList),
	} {
		wantRefused(t, name, v)
	}
}

// P4.1: values that are not valid.

func TestNotValid(t *testing.T) {
	one := value.Int(1)
	for name, v := range map[string]api.Value{
		"Kind 6":                      {Kind: 6},
		"Kind 7":                      {Kind: 7},
		"Kind -1":                     {Kind: -1},
		"the greatest Kind":           {Kind: math.MaxInt},
		"the least Kind":              {Kind: math.MinInt},
		"Bool 2":                      {Kind: api.Bool, N: 2},
		"Bool -1":                     {Kind: api.Bool, N: -1},
		"Int MaxInt+1":                value.Int(api.MaxInt + 1),
		"Int -MaxInt-1":               value.Int(-api.MaxInt - 1),
		"the greatest Int":            value.Int(math.MaxInt64),
		"the least Int":               value.Int(math.MinInt64),
		"an ill-formed Text":          value.Text("\xff"),
		"a surrogate":                 value.Text("\xed\xa0\x80"),
		"a Text that is cut off":      value.Text("abc\xe2\x82"),
		"an ill-formed key":           value.Map(member("\xff", one)),
		"an ill-formed key, first":    raw(member("\x80", one), member("\uffff", one)),
		"an ill-formed key, last":     value.Map(member("a", one), member("b\xc3", one)),
		"keys that descend":           raw(member("b", one), member("a", one)),
		"keys in the order of UTF-16": raw(member("\U00010000", one), member("\uffff", one)),
		"a key twice":                 raw(member("a", one), member("a", one)),
		"the empty key twice":         raw(member("", one), member("", one)),
		"Null with N":                 {N: 1},
		"Null with S":                 {S: "a"},
		"Null with L":                 {L: []api.Value{one}},
		"Null with M":                 {M: []api.Member{member("a", one)}},
		"Bool with S":                 {Kind: api.Bool, S: "true"},
		"Int with S":                  {Kind: api.Int, S: "1"},
		"Text with N":                 {Kind: api.Text, N: 1, S: "a"},
		"Text with L":                 {Kind: api.Text, L: []api.Value{one}},
		"List with M":                 {Kind: api.List, M: []api.Member{member("a", one)}},
		"List with N":                 {Kind: api.List, N: 1},
		"Map with L":                  {Kind: api.Map, L: []api.Value{one}},
		"Map with S":                  {Kind: api.Map, S: "a"},
	} {
		wantRefused(t, name, v)
	}
}

// R1: a list that holds itself has no end to be written to.
func TestEndsOnAListThatHoldsItself(t *testing.T) {
	l := make([]api.Value, 2)
	l[0] = api.Value{Kind: api.List, L: l}
	l[1] = l[0]
	if s, e := canon.Write(l[0]); s != "" || e != api.ErrArg || canon.Len(l[0]) != 0 {
		t.Errorf("Write = %q, %v", s, e)
	}
}

// R4: what is passed is not changed, spare capacity included.
func TestArgumentsAreNotChanged(t *testing.T) {
	l := []api.Value{value.Int(1), value.Text("a"), value.Text("spare")}
	m := []api.Member{member("a", value.Int(1)), member("b", api.Value{Kind: api.List, L: l[:1]}), member("spare", api.Value{})}
	v := api.Value{Kind: api.Map, M: m[:2]}
	wantText(t, v, `{"a":1,"b":[1]}`)
	if !value.Same(value.List(l...), value.List(value.Int(1), value.Text("a"), value.Text("spare"))) || m[2].Key != "spare" || len(m[1].V.L) != 1 {
		t.Errorf("the argument has become %+v, %+v", l, m)
	}
}

// P4.1: Is.

func wantNot(t *testing.T, texts ...string) {
	t.Helper()
	for _, s := range texts {
		if canon.Is(s) {
			t.Errorf("Is(%q) is true", s)
		}
	}
}

// tokens are those of a result of Write that has every place at which white space may occur.
var tokens = []string{"{", `"a"`, ":", "[", "1", ",", "-20", ",", `"x y"`, ",", "null", ",", "true", ",", "false", "]", ",", `"b"`, ":", "{", "}", ",", `"c"`, ":", "[", "]", ",", `"d"`, ":", `""`, "}"}

func TestIsNotWithWhiteSpace(t *testing.T) {
	whole := strings.Join(tokens, "")
	if !canon.Is(whole) {
		t.Fatalf("Is(%q) is false", whole)
	}
	want, _ := parse.Parse(whole, len(whole))
	for _, space := range []string{" ", "\t", "\n", "\r", "\r\n", "    "} {
		for at := range len(tokens) + 1 {
			s := strings.Join(tokens[:at], "") + space + strings.Join(tokens[at:], "")
			wantNot(t, s)
			oneResult(t, want, s)
		}
	}
	for _, s := range []string{"null", "true", "false", "0", "-1", `"a"`, "[]", "{}", "[1]", `{"a":1}`} {
		for _, space := range []string{" ", "\t", "\n", "\r"} {
			wantNot(t, space+s, s+space, space+s+space)
		}
	}
}

// oneResult checks that a text that denotes v leads to the result of Write(v).
func oneResult(t *testing.T, v api.Value, s string) {
	t.Helper()
	x, e := parse.Parse(s, len(s))
	got, _ := canon.Write(x)
	want, _ := canon.Write(v)
	if e != api.OK || got != want {
		t.Errorf("%q leads to %q, %v, want %q", s, got, e, want)
	}
}

// P4.2: all texts that denote one value lead to one result, and Is accepts that one alone.
func TestOtherTextsOfOneValue(t *testing.T) {
	for want, others := range map[string][]string{
		`{"a":1,"b":2}`:                   {`{"b":2,"a":1}`, `{"\u0061":1,"b":2}`, `{"b":2,"\u0061":1}`, `{ "a" : 1 , "b" : 2 }`},
		`{"a":{"b":1,"c":2}}`:             {`{"a":{"c":2,"b":1}}`},
		`[{"":1,"a":2},[3]]`:              {`[{"a":2,"":1},[3]]`, `[{"":1,"a":2},[3] ]`},
		`{"a":1,"b":2,"c":3}`:             {`{"a":1,"c":3,"b":2}`, `{"b":2,"a":1,"c":3}`, `{"b":2,"c":3,"a":1}`, `{"c":3,"a":1,"b":2}`, `{"c":3,"b":2,"a":1}`},
		"{\"\uffff\":1,\"\U00010000\":2}": {"{\"\U00010000\":2,\"\uffff\":1}", `{"\uffff":1,"\ud800\udc00":2}`},
		`"a"`:                             {`"\u0061"`},
		`"A"`:                             {`"\u0041"`},
		`"/"`:                             {`"\/"`, `"\u002f"`, `"\u002F"`},
		`"\""`:                            {`"\u0022"`},
		`"\\"`:                            {`"\u005c"`, `"\u005C"`},
		`"\b\t\n\f\r"`:                    {`"\u0008\t\n\f\r"`, `"\b\u0009\n\f\r"`, `"\b\t\u000a\f\r"`, `"\b\t\u000A\f\r"`, `"\b\t\n\u000c\r"`, `"\b\t\n\u000C\r"`, `"\b\t\n\f\u000d"`, `"\b\t\n\f\u000D"`},
		`"\u000b\u000e\u001f"`:            {`"\u000B\u000e\u001f"`, `"\u000b\u000E\u001f"`, `"\u000b\u000e\u001F"`},
		"\"\x7f\"":                        {`"\u007f"`, `"\u007F"`},
		"\"\u00e4\"":                      {`"\u00e4"`, `"\u00E4"`},
		"\"\u20ac\"":                      {`"\u20ac"`, `"\u20AC"`, `"\u20aC"`},
		"\"\u2028\"":                      {`"\u2028"`},
		"\"\U0001f600\"":                  {`"\ud83d\ude00"`, `"\uD83D\uDE00"`, `"\ud83d\uDE00"`},
		"{\"\\u001f\":\"\u00e4\"}":        {"{\"\\u001F\":\"\u00e4\"}", `{"\u001f":"\u00e4"}`},
	} {
		v, e := parse.Parse(want, len(want))
		if e != api.OK {
			t.Fatalf("Parse(%q): %v", want, e)
		}
		wantText(t, v, want)
		for _, s := range others {
			wantNot(t, s)
			oneResult(t, v, s)
		}
	}
}

func TestIsNotOfWhatDenotesNothing(t *testing.T) {
	wantNot(t, "", " ", "\n", "\x00", "\xff", "\ufeff1")
	wantNot(t, "nul", "nulll", "Null", "NULL", "True", "tru", "falsefalse", "undefined", "a", "'a'")
	wantNot(t, "-0", "[-0]", `{"a":-0}`, "00", "01", "-01", "+1", "1.0", "1e2", "0e0", ".5", "-", "--1", "0x1", "NaN", "9007199254740992", "-9007199254740992", "1 2")
	wantNot(t, `"`, `"a`, `a"`, `"a""`, `"\x"`, `"\u00"`, `"\ud83d"`, `"\ude00"`, `"\u001"`, "\"\n\"", "\"\t\"", "\"\x1f\"", "\"\xff\"", "\"\xed\xa0\x80\"", "\"\xc0\x80\"")
	wantNot(t, "[", "]", "[1", "1]", "[1,]", "[,1]", "[,]", "[1 2]", "[1,,2]", "[]]", "[[]", "[]1", "[1]x")
	wantNot(t, "{", "}", `{"a"}`, `{"a":}`, `{"a":1`, `{"a":1,}`, `{,"a":1}`, `{"a",1}`, `{a:1}`, `{1:1}`, `{"a":1}{}`, `{"a":1]`, "[}")
	wantNot(t, `{"a":1,"a":1}`, `{"a":1,"a":2}`, `{"":1,"":1}`, `{"a":1,"b":1,"a":1}`, `{"a":{"b":1,"b":1}}`, `{"a":1,"\u0061":1}`)
	wantNot(t, strings.Repeat("[", 51)+strings.Repeat("]", 51), strings.Repeat("[", 100000), strings.Repeat(`{"a":`, 51)+"1"+strings.Repeat("}", 51))
}

// P4.2: different values have different results.
func TestDifferentResults(t *testing.T) {
	one := value.Int(1)
	seen := map[string]api.Value{}
	for _, v := range []api.Value{
		{}, value.Bool(false), value.Bool(true), value.Int(0), one, value.Int(-1), value.Int(11), value.Int(api.MaxInt), value.Int(-api.MaxInt),
		value.Text(""), value.Text("null"), value.Text("true"), value.Text("1"), value.Text("[]"), value.Text(`""`), value.Text(" "), value.Text("\n"), value.Text(`\n`), value.Text(`\\n`),
		value.List(), value.Map(), value.List(api.Value{}), value.List(one), value.List(one, one), value.List(value.Int(11)), value.List(value.List(one), one), value.List(one, value.List(one)),
		value.List(value.List(one, one)), value.List(value.List()), value.List(value.List(), value.List()), value.List(value.Text("1,1")), value.List(value.Text("1"), value.Text("1")), value.List(value.Text(`1","1`)),
		value.Map(member("", api.Value{})), value.Map(member("a", one)), value.Map(member("a", value.Text("1"))), value.Map(member("a", one), member("b", one)), value.Map(member(`a":1,"b`, one)),
		value.Map(member("a", value.Map(member("b", one)))), value.Map(member("a", value.Map()), member("b", one)), value.List(value.Text("a"), one), value.List(value.Map(member("a", one))),
	} {
		s, e := canon.Write(v)
		if other, there := seen[s]; there || e != api.OK {
			t.Errorf("%+v and %+v: %q, %v", v, other, s, e)
		}
		seen[s] = v
	}
}
