package parse_test

import (
	"strconv"
	"strings"
	"testing"

	"introit/api"
	"introit/value"
)

func lists(n int, inner string) string {
	return strings.Repeat("[", n) + inner + strings.Repeat("]", n)
}

func maps(n int, inner string) string {
	return strings.Repeat(`{"a":`, n) + inner + strings.Repeat("}", n)
}

// P3.2: ErrNumber.

func TestNumbers(t *testing.T) {
	for _, n := range []int64{0, 1, -1, 9, -9, 10, -10, 100, 1234567890, -1234567890, 9007199254740990, api.MaxInt, -9007199254740990, -api.MaxInt} {
		s := strconv.FormatInt(n, 10)
		wantValue(t, s, value.Int(n))
		wantValue(t, " "+s+" ", value.Int(n))
		wantValue(t, "["+s+","+s+"]", value.List(value.Int(n), value.Int(n)))
		wantValue(t, `{"a":`+s+`}`, value.Map(member("a", value.Int(n))))
	}
}

func wrongNumbers() []string {
	l := strings.Fields(`
		-0 00 -00 01 -01 007 -007 0000000000000001
		9007199254740992 -9007199254740992 9007199254740993 9999999999999999 10000000000000000 -10000000000000000
		9223372036854775807 9223372036854775808 -9223372036854775808 18446744073709551615 18446744073709551616 18446744073709551617
		36893488147419103232 340282366920938463463374607431768211457
		1.0 1.5 0.0 -1.0 1. -1. 0. 1.. 1.2.3
		1e2 1E2 1e+2 1e-2 0e0 -1e1 1e 1E 1e+ 1.5e3 0E
		1+ 1- 1+2 1-2 - -- --1 -+1 -. -.5 -e -e5 0- 0+ 0-0 -1- 1ee 00.0`)
	return append(l, strings.Repeat("1", 100000), "-"+strings.Repeat("9", 100000), strings.Repeat("0", 1000), "1"+strings.Repeat("0", 64))
}

func TestWrongNumbers(t *testing.T) {
	for _, s := range wrongNumbers() {
		wantError(t, api.ErrNumber, s, " "+s+" ", s+" 1", s+"x", s+"]", s+`"`)
		wantError(t, api.ErrNumber, "["+s+"]", "[1,"+s+"]", "["+s, "[1, "+s+"x", "[["+s+"]]")
		wantError(t, api.ErrNumber, `{"a":`+s+`}`, `{"a":1,"b": `+s, `[{"a":`+s+`}]`)
	}
}

func TestNumbersWhereNoValueIsAllowed(t *testing.T) {
	for _, s := range append(wrongNumbers(), "0", "1", "-1", "9007199254740991") {
		wantError(t, api.ErrForm, "1 "+s, "[] "+s, "[]"+s, `""`+s, "null "+s, "null"+s, "[1 "+s, "[1 "+s+"]", "[[]"+s+"]", `["a"`+s+"]")
		wantError(t, api.ErrForm, "{"+s, "{"+s+":1}", `{"a":1,`+s, `{"a":1,`+s+":2}", `{"a"`+s, `{"a" `+s+"}", `{"a":1 `+s, `{"a":[]`+s+"}")
	}
}

func TestWhatBeginsNoNumber(t *testing.T) {
	for _, s := range []string{"+", "+1", ".", ".5", ".0", "e", "e5", "E5", "+-1", "Infinity", "NaN", "x10", "\u0661", "\uff11"} {
		wantError(t, api.ErrForm, s, "["+s+"]", "[1,"+s+"]", `{"a":`+s+"}")
	}
	wantError(t, api.ErrForm, "0x10", "1x", "[1_000]", "1a", "1f", "[1true]", `[1"a"]`, "[1[]]", "1/2")
}

// P3.2: ErrDepth.

func TestDepth(t *testing.T) {
	const deepest = api.MaxDepth
	for _, n := range []int{1, 2, deepest - 1, deepest} {
		for _, inner := range []string{"1", `"[[["`, "null"} {
			for _, s := range []string{lists(n, inner), maps(n, inner), lists(n-1, `{"a":`+inner+"}"), maps(n-1, "["+inner+"]")} {
				if v, e := read(t, s); e != api.OK || value.Depth(v) != n {
					t.Errorf("%s: depth %d, %v, want %d", s, value.Depth(v), e, n)
				}
			}
		}
		for _, s := range []string{lists(n, ""), maps(n-1, "[]"), maps(n-1, "{}"), lists(n-1, "{}"), lists(n-1, "[ ]")} {
			if v, e := read(t, s); e != api.OK || value.Depth(v) != n {
				t.Errorf("%s: depth %d, %v, want %d", s, value.Depth(v), e, n)
			}
		}
	}
	for _, inner := range []string{"[]", "{}", "[1]", `{"a":1}`, "[", "{", "[x", "{x", "[1.0", `{"a":1,"a":2}`} {
		wantError(t, api.ErrDepth, lists(deepest, inner), maps(deepest, inner), lists(deepest, "1,"+inner), maps(deepest, `1,"b":`+inner))
		wantError(t, api.ErrDepth, strings.Repeat("[", deepest)+inner, strings.Repeat(`{"a":`, deepest)+inner)
	}
	wantError(t, api.ErrDepth, lists(deepest+1, "1"), maps(deepest+1, "1"), lists(100000, ""), maps(10000, "1"), strings.Repeat("[", 1000000), strings.Repeat(`{"a":`, 1000000))
}

func TestDepthIsCountedDownAgain(t *testing.T) {
	const deepest = api.MaxDepth
	side := lists(deepest-1, "") + "," + maps(deepest-1, "1")
	if _, e := read(t, "["+side+","+side+","+strings.Repeat("[],{},", 200)+"1]"); e != api.OK {
		t.Errorf("lists and maps side by side: %v", e)
	}
	if _, e := read(t, `{"a":`+lists(deepest-1, "")+`,"b":`+maps(deepest-1, "1")+"}"); e != api.OK {
		t.Errorf("lists and maps side by side in a map: %v", e)
	}
	wantError(t, api.ErrDepth, "["+side+","+lists(deepest, "")+"]", "["+side+","+maps(deepest, "1")+"]")
}

func TestBracketsWhereNoValueIsAllowed(t *testing.T) {
	for _, bracket := range []string{"[", "{", "[]", "{}"} {
		wantError(t, api.ErrForm, lists(api.MaxDepth, "1"+bracket), lists(api.MaxDepth, "1 "+bracket), maps(api.MaxDepth, "1 "+bracket))
		wantError(t, api.ErrForm, lists(api.MaxDepth-1, "{"+bracket), lists(api.MaxDepth-1, `{"a"`+bracket), lists(api.MaxDepth-1, `{"a":1,`+bracket))
	}
}

// P3.2: ErrTwice.

func TestKeyTwice(t *testing.T) {
	wantError(t, api.ErrTwice,
		`{"a":1,"a":2}`, `{"a":1,"a":1}`, `{"":1,"":2}`, `{"a":1,"b":2,"a":3}`, `{"b":1,"a":2,"b":3}`, `{"a":1,"b":2,"c":3,"c":4}`,
		`{"a":1,"\u0061":2}`, `{"\u0061":1,"a":2}`, `{"\/":1,"/":2}`, `{"\n":1,"\u000a":2}`, `{"\u00e4":1,"`+"\u00e4"+`":2}`, `{"\ud83d\ude00":1,"`+"\U0001f600"+`":2}`,
		`{"a":null,"a":null}`, `{"a":[],"a":[]}`, `{"a":{"b":1},"a":{"b":1}}`, `{"x":{"a":1,"a":2}}`, `[{"a":1,"a":2}]`, `[[{"b":{"a":1}},{"a":1,"a":2}]]`,
		maps(api.MaxDepth-1, `{"a":1,"a":2}`),
	)
	// Before what follows the key.
	for _, after := range []string{"", " ", ":", "}", ",", "x", ":1.0}", ":x", ":2", ":2,", `"a"`, "1.0", "[", ":" + strings.Repeat("[", 60), "\xff"} {
		wantError(t, api.ErrTwice, `{"a":1,"a"`+after, `[{"a":1, "b":2, "\u0061"`+after)
	}
	// A literal that does not end, or is wrong, is no key.
	wantError(t, api.ErrForm, `{"a":1,"a`, `{"a":1,"a\"`, `{"a":1,"a\x"`, `{"a":1,a":2}`, `{"a":1,a}`, "{\"a\":1,\"a\xff\":2}")
}

func TestKeyTwiceInTwoMaps(t *testing.T) {
	a := value.Map(member("a", value.Int(1)))
	wantValue(t, `[{"a":1},{"a":1}]`, value.List(a, a))
	wantValue(t, `{"a":{"a":1}}`, value.Map(member("a", a)))
	wantValue(t, `{"b":{"a":1},"a":1}`, value.Map(member("a", value.Int(1)), member("b", a)))
	wantValue(t, `{"a":1,"b":{"a":1},"c":{"a":1}}`, value.Map(member("a", value.Int(1)), member("b", a), member("c", a)))
	wantError(t, api.ErrTwice, `{"a":1,"b":{"a":1},"a":1}`, `{"a":{"a":1},"a":1}`)
	wantValue(t, `{"a":1,"A":1,"a ":1,"\u0000a":1}`, value.Map(member("a", value.Int(1)), member("A", value.Int(1)), member("a ", value.Int(1)), member("\x00a", value.Int(1))))
}

// P3.2: ErrForm.

func TestForm(t *testing.T) {
	wantError(t, api.ErrForm, "", " ", "\t\n\r ", "\x00", "\xff", "\ufeff1", "x", "'a'", "(1)", "null1", "undefined", "None", "\\", "/", "//", "1;", "<", "a")
	wantError(t, api.ErrForm, "Null", "NULL", "True", "TRUE", "False", "nul", "nulll", "nullx", "tru", "truee", "fals", "falsee", "truefalse", "nil", "t", "f", "n")
	wantError(t, api.ErrForm, "[,]", "[,1]", "[1,]", "[1,,2]", "[1 2]", "[1:2]", "[1;2]", "[]]", "[[]", "[}", "{]", "[1}", `{"a":1]`, "]", "}", "[]]", "{}}", ":", ",", ",1", "1,", "1:", "[],", "[:]")
	wantError(t, api.ErrForm, "{,}", `{,"a":1}`, `{"a":1,}`, `{"a":1,,"b":2}`, `{"a":1 "b":2}`, `{"a":1"b":2}`, `{"a"}`, `{"a":}`, `{"a":,}`, `{"a",1}`, `{"a" 1}`, `{"a"1}`, `{"a"::1}`, `{:1}`, `{"a":1:2}`, `{"a":1;"b":2}`, `{"a"=1}`)
	wantError(t, api.ErrForm, "{a:1}", "{'a':1}", "{1:1}", "{1.0:1}", "{-0:1}", "{null:1}", "{true:1}", "{[]:1}", "{{}:1}", "{[1.0]:1}", `{"a":1,b:2}`, `{"a":1,2:2}`)
	wantError(t, api.ErrForm, `"`, `"a`, `"\"`, `"\x"`, `"\ud800"`, `"\u12"`, "\"\xff\"", "\"\n\"", "\"\x00\"", `["\x"]`, `{"\x":1}`, `{"a":"\x"}`, `{"\ud800":1}`, "{\"\xc3\":1}", `{"a`, `{"a\":1}`)
}

func TestSomethingAfterTheValue(t *testing.T) {
	for _, s := range []string{"null", "true", "false", "1", `"a"`, "[]", "{}", "[1]", `{"a":1}`} {
		for _, after := range []string{"null", "x", "1", "1.0", "-0", `"a"`, "[", "]", "{", "}", ",", ":", "\x00", "\xff", "\f", "\\", strings.Repeat("[", 60), `{"a":1,"a":2}`} {
			wantError(t, api.ErrForm, s+" "+after, " "+s+"\n"+after)
		}
	}
}

// P3.2: a text that ends too early.

func TestEndsTooEarly(t *testing.T) {
	s := ` {"a" : [ 1, 20 ,null,true,false, "x\n\u00e4\ud83d\ude00` + "\u00e4" + `", [ ], { } , {"b":{"c" :[ ]} } ] , "d":"" , "\u0065":{"a" : 7 }} `
	if _, e := read(t, s); e != api.OK {
		t.Fatalf("the whole text: %v", e)
	}
	for end := range len(s) - 1 { // the last byte is white space, which may lack
		wantError(t, api.ErrForm, s[:end])
	}
	for _, word := range []string{"null", "true", "false", `"a\u00e4"`, "[]", "{}"} {
		for end := range len(word) {
			wantError(t, api.ErrForm, word[:end], " "+word[:end]+" ", "["+word[:end], `{"a":`+word[:end])
		}
	}
	wantError(t, api.ErrNumber, "-", "[-", `{"a":-`)
}

// P3.2: which of two defects is told.

func TestFirstOfTwoDefects(t *testing.T) {
	defects := []struct {
		text string
		e    api.Errno
	}{
		{"1.0", api.ErrNumber},
		{"-", api.ErrNumber},
		{"9007199254740992", api.ErrNumber},
		{lists(api.MaxDepth, ""), api.ErrDepth}, // within one list more
		{maps(api.MaxDepth, "1"), api.ErrDepth},
		{`{"a":1,"a":2}`, api.ErrTwice},
		{`{"a":[],"\u0061"`, api.ErrTwice},
		{"x", api.ErrForm},
		{",", api.ErrForm},
		{"[1 1.0]", api.ErrForm},
		{"{1.0:1}", api.ErrForm},
		{`"\x"`, api.ErrForm},
		{"\xff", api.ErrForm},
	}
	for _, first := range defects {
		for _, second := range defects {
			wantError(t, first.e,
				"["+first.text+","+second.text+"]",
				"["+first.text+" "+second.text,
				`{"k":`+first.text+`,"l":`+second.text+"}",
				`[{"k":`+first.text+`},{"k":1,"k":`+second.text+"}",
				"[null, 1,"+first.text+",]"+second.text,
			)
		}
	}
	wantError(t, api.ErrNumber, `{"a":1.5,"a":1}`, `{"a":01,"a"`, "["+strings.Repeat("[", 40)+"1e5,"+strings.Repeat("[", 60))
	wantError(t, api.ErrDepth, strings.Repeat("[", 51)+"1.0", lists(50, `{"a":1,"a":1}`), lists(50, "[x"))
	wantError(t, api.ErrTwice, `{"a":1,"a":1.5}`, `{"a":1,"a" 1}`, lists(49, `{"a":1,"a":[]}`))
	wantError(t, api.ErrForm, "[1 2.0]", "[x,1.0]", `{"a" 1.0}`, `{"a":1 "a":2}`, `{"a":1,,"a":2}`, lists(50, "x[]"), "{"+strings.Repeat("[", 60))
}
