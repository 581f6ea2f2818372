package parse_test

import (
	"bytes"
	"encoding/json"
	"math/big"
	"math/rand"
	"regexp"
	"sort"
	"strconv"
	"strings"
	"testing"
	"unicode/utf8"

	"introit/api"
	"introit/value"
)

// A second statement of P3.1 and P3.2, by other means: tokens by regular expressions, and a table that says what follows what.

var (
	spaceAt  = regexp.MustCompile(`\A[ \t\n\r]*`)
	numberAt = regexp.MustCompile(`\A[-0-9][-+.eE0-9]*`)
	wordAt   = regexp.MustCompile(`\A(?:[\[\]{}:,]|null|true|false)`)
	stringAt = regexp.MustCompile(`(?s)\A"(?:[^"\\\x00-\x1f]|\\["\\/btnfr]|\\u(?:[0-9a-cA-Ce-fE-F][0-9a-fA-F]{3}|[dD][0-7][0-9a-fA-F]{2}|[dD][89abAB][0-9a-fA-F]{2}\\u[dD][c-fC-F][0-9a-fA-F]{2}))*"`)
	integers = regexp.MustCompile(`\A(?:0|-?[1-9][0-9]*)\z`)
)

// token returns the sort and the text of the token with which s begins: a byte for itself, w, s and n for words, strings and numbers, 0 for none.
func token(s string) (byte, string) {
	if x := wordAt.FindString(s); len(x) > 1 {
		return 'w', x
	} else if x != "" {
		return x[0], x
	}
	if x := stringAt.FindString(s); x != "" && utf8.ValidString(x) {
		return 's', x
	}
	if x := numberAt.FindString(s); x != "" {
		return 'n', x
	}
	return 0, ""
}

// What may follow, by the place: a value; a value or the end of a list; a key or the end of a map; a key; a colon; a comma or the end of a list or of a map; nothing.
var allowedAt = map[string]string{
	"value": "[{wsn", "first": "[{wsn]", "member": "s}", "key": "s", "colon": ":", "inList": ",]", "inMap": ",}", "end": "",
}

// firstDefect returns the error that P3.2 asks for.
func firstDefect(s string) api.Errno {
	place := "value"
	var around []map[string]bool // the keys of each open map; nil for a list
	after := func() string {
		switch n := len(around); {
		case n == 0:
			return "end"
		case around[n-1] == nil:
			return "inList"
		}
		return "inMap"
	}
	for {
		s = s[len(spaceAt.FindString(s)):]
		if s == "" && place == "end" {
			return api.OK
		}
		sort, text := token(s)
		if sort == 0 || !strings.Contains(allowedAt[place], string(sort)) {
			return api.ErrForm
		}
		s = s[len(text):]
		switch {
		case sort == 'n' && !isInRange(text):
			return api.ErrNumber
		case (sort == '[' || sort == '{') && len(around) == 50:
			return api.ErrDepth
		case sort == '[':
			around, place = append(around, nil), "first"
		case sort == '{':
			around, place = append(around, map[string]bool{}), "member"
		case sort == ']' || sort == '}':
			around = around[:len(around)-1]
			place = after()
		case sort == ':':
			place = "value"
		case sort == ',' && place == "inMap":
			place = "key"
		case sort == ',':
			place = "value"
		case place == "key" || place == "member":
			var key string
			if json.Unmarshal([]byte(text), &key) != nil || around[len(around)-1][key] {
				return api.ErrTwice
			}
			around[len(around)-1][key] = true
			place = "colon"
		default:
			place = after()
		}
	}
}

func isInRange(s string) bool {
	if !integers.MatchString(s) {
		return false
	}
	n, _ := new(big.Int).SetString(s, 10)
	return n.CmpAbs(big.NewInt(9007199254740991)) <= 0
}

// denoted is what the library says that a text without defects denotes.
func denoted(t *testing.T, s string) api.Value {
	t.Helper()
	d := json.NewDecoder(bytes.NewReader([]byte(s)))
	d.UseNumber()
	var x any
	if err := d.Decode(&x); err != nil {
		t.Fatalf("%q: the library says %v", s, err)
	}
	return converted(x)
}

func converted(x any) api.Value {
	switch x := x.(type) {
	case bool:
		return value.Bool(x)
	case json.Number:
		n, _ := x.Int64()
		return value.Int(n)
	case string:
		return value.Text(x)
	case []any:
		v := api.Value{Kind: api.List}
		for _, y := range x {
			v.L = append(v.L, converted(y))
		}
		return v
	case map[string]any:
		v := api.Value{Kind: api.Map}
		for k, y := range x {
			v.M = append(v.M, member(k, converted(y)))
		}
		sort.Slice(v.M, func(i, j int) bool { return v.M[i].Key < v.M[j].Key })
		return v
	}
	return api.Value{}
}

// holds compares Parse with the second statement.
func holds(t *testing.T, s string) api.Errno {
	t.Helper()
	want := firstDefect(s)
	got, e := read(t, s)
	if e != want {
		t.Fatalf("Parse(%q) = %+v, %v, want %v", s, got, e, want)
	}
	if e == api.OK && !value.Same(got, denoted(t, s)) {
		t.Fatalf("Parse(%q) = %+v, want %+v", s, got, denoted(t, s))
	}
	return e
}

func TestPiecesInEveryOrder(t *testing.T) {
	pieces := []string{"[", "]", "{", "}", ":", ",", `"a"`, `"\u0061"`, "1", "0", "-", ".", "null", " ", "x", `"`}
	seen := map[api.Errno]int{}
	var walk func(s string, left int)
	walk = func(s string, left int) {
		seen[holds(t, s)]++
		if left == 0 {
			return
		}
		for _, p := range pieces {
			walk(s+p, left-1)
		}
	}
	walk("", 4)
	walk(`{"a":1,`, 3)
	walk(`[{"b":2,"a":1}`, 3)
	walk(`[[1,2],{"a":{"a"`, 3)
	walk(strings.Repeat("[", 49), 4)
	for _, e := range []api.Errno{api.OK, api.ErrNumber, api.ErrDepth, api.ErrTwice, api.ErrForm} {
		if seen[e] < 100 {
			t.Errorf("only %d texts with %v", seen[e], e)
		}
	}
}

func randomSpace(r *rand.Rand) string {
	return []string{"", "", "", " ", "\t", "\n", "\r", " \r\n\t"}[r.Intn(8)]
}

func randomLiteral(r *rand.Rand) string {
	s := `"`
	for range r.Intn(4) {
		s += []string{"a", "b", `\u0061`, `\"`, `\\`, `\/`, `\n`, "/", "\u00e4", `\u00E4`, "\U0001f600", `\ud83d\ude00`, `\ud83D\uDE01`, " ", "["}[r.Intn(15)]
	}
	return s + `"`
}

// randomText writes a text without defects, but for a key twice now and then.
func randomText(r *rand.Rand, size int) string {
	open, item, end := "[", func() string { return randomText(r, size-1) }, "]"
	switch r.Intn(8) {
	case 0:
		return []string{"null", "true", "false"}[r.Intn(3)]
	case 1:
		return strconv.Itoa(r.Intn(2001) - 1000)
	case 2:
		return []string{"0", "9007199254740991", "-9007199254740991"}[r.Intn(3)]
	case 3:
		return randomLiteral(r)
	case 4, 5:
		open, end = "{", "}"
		item = func() string {
			return randomLiteral(r) + randomSpace(r) + ":" + randomSpace(r) + randomText(r, size-1)
		}
	}
	s := open + randomSpace(r)
	for i := range r.Intn(size + 1) {
		if i > 0 {
			s += "," + randomSpace(r)
		}
		s += item() + randomSpace(r)
	}
	return s + end
}

// spoiled changes some bytes of s.
func spoiled(r *rand.Rand, s string) string {
	for range 1 + r.Intn(2) {
		from := r.Intn(len(s) + 1)
		to := min(len(s), from+r.Intn(3))
		with := []string{"", "", " ", "[", "]", "{", "}", ":", ",", `"`, `\`, "0", "1", "-", ".", "e", "null", "a", "\x00", "\xff", "\n", s[from:to] + s[from:to]}[r.Intn(22)]
		s = s[:from] + with + s[to:]
	}
	return s
}

func TestRandomTexts(t *testing.T) {
	r := rand.New(rand.NewSource(3))
	seen := map[api.Errno]int{}
	for range 30000 {
		s := randomSpace(r) + randomText(r, 4) + randomSpace(r)
		if e := holds(t, s); e != api.OK && e != api.ErrTwice {
			t.Fatalf("%q: %v", s, e)
		}
		seen[holds(t, spoiled(r, s))]++
		seen[holds(t, strings.Repeat("[", 47)+spoiled(r, s)+strings.Repeat("]", 47))]++
	}
	for _, e := range []api.Errno{api.OK, api.ErrNumber, api.ErrDepth, api.ErrTwice, api.ErrForm} {
		if seen[e] < 100 {
			t.Errorf("only %d texts with %v", seen[e], e)
		}
	}
}

// R1: no bytes at all make a call panic.
func TestRandomBytes(t *testing.T) {
	r := rand.New(rand.NewSource(4))
	for range 50000 {
		b := make([]byte, r.Intn(12))
		for i := range b {
			b[i] = byte(r.Intn(256))
			if r.Intn(2) == 0 {
				b[i] = `[]{}:,"\u0019-. e`[r.Intn(17)]
			}
		}
		holds(t, string(b))
	}
}

// Long texts: steps that looked at all that was read before would not end in time.
func TestLongTexts(t *testing.T) {
	const many = 300000
	var keys []string
	for i := range many {
		keys = append(keys, `"`+strconv.Itoa(i)+`":`+strconv.Itoa(i))
	}
	all := strings.Join(keys, ",")
	if v, e := read(t, "{"+all+"}"); e != api.OK || len(v.M) != many {
		t.Errorf("many members: %d, %v", len(v.M), e)
	}
	wantErrorOfLong(t, "many members and one of them twice", "{"+all+`,"7":7}`, api.ErrTwice)
	if v, e := read(t, "["+strings.Repeat("[],", many)+"{}]"); e != api.OK || len(v.L) != many+1 {
		t.Errorf("many lists: %d, %v", len(v.L), e)
	}
	if v, e := read(t, `"`+strings.Repeat("a", many)+`"`); e != api.OK || len(v.S) != many {
		t.Errorf("a long string: %d, %v", len(v.S), e)
	}
	if v, e := read(t, strings.Repeat(" ", many)+"1"+strings.Repeat("\n", many)); e != api.OK || v.N != 1 {
		t.Errorf("much white space: %d, %v", v.N, e)
	}
	wantErrorOfLong(t, "many strings without an end", "["+strings.Repeat(`"a",`, many)+`"`, api.ErrForm)
}

func wantErrorOfLong(t *testing.T, name, s string, want api.Errno) {
	t.Helper()
	if _, e := read(t, s); e != want {
		t.Errorf("%s: %v, want %v", name, e, want)
	}
}
