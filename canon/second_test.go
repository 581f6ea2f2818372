package canon_test

import (
	"bytes"
	"encoding/json"
	"fmt"
	"io"
	"math/rand"
	"sort"
	"strconv"
	"strings"
	"testing"

	"introit/api"
	"introit/canon"
	"introit/parse"
	"introit/value"
)

// A second statement of P4.1, by other means: the library's decoder, and a writer that joins strings.

// escapes replaces what may not stand in a literal as it is.
var escapes = func() *strings.Replacer {
	l := []string{`"`, `\"`, `\`, `\\`, "\b", `\b`, "\t", `\t`, "\n", `\n`, "\f", `\f`, "\r", `\r`}
	for b := range 32 {
		l = append(l, string(rune(b)), fmt.Sprintf(`\u%04x`, b))
	}
	return strings.NewReplacer(l...)
}()

// written is what Write has to return for a valid value.
func written(v api.Value) string {
	var items []string
	switch v.Kind {
	case api.Bool:
		return fmt.Sprint(v.N != 0)
	case api.Int:
		return fmt.Sprint(v.N)
	case api.Text:
		return `"` + escapes.Replace(v.S) + `"`
	case api.List:
		for _, x := range v.L {
			items = append(items, written(x))
		}
		return "[" + strings.Join(items, ",") + "]"
	case api.Map:
		for _, m := range v.M {
			items = append(items, written(value.Text(m.Key))+":"+written(m.V))
		}
		return "{" + strings.Join(items, ",") + "}"
	}
	return "null"
}

// decoded is what the library takes a text for; false if it takes it for nothing, or for something that no valid value is.
func decoded(s string) (api.Value, bool) {
	d := json.NewDecoder(bytes.NewReader([]byte(s)))
	d.UseNumber()
	var x any
	if d.Decode(&x) != nil {
		return api.Value{}, false
	}
	if _, err := d.Token(); err != io.EOF {
		return api.Value{}, false
	}
	return converted(x, 50)
}

func converted(x any, levels int) (api.Value, bool) {
	switch x := x.(type) {
	case bool:
		return value.Bool(x), true
	case json.Number:
		n, err := strconv.ParseInt(x.String(), 10, 64)
		return value.Int(n), err == nil && n < 1<<53 && n > -(1<<53)
	case string:
		return value.Text(x), true
	case []any:
		v, all := api.Value{Kind: api.List}, levels > 0
		for _, y := range x {
			z, ok := converted(y, levels-1)
			v.L, all = append(v.L, z), all && ok
		}
		return v, all
	case map[string]any:
		v, all := api.Value{Kind: api.Map}, levels > 0
		for k, y := range x {
			z, ok := converted(y, levels-1)
			v.M, all = append(v.M, member(k, z)), all && ok
		}
		sort.Slice(v.M, func(i, j int) bool { return v.M[i].Key < v.M[j].Key })
		return v, all
	}
	return api.Value{}, true
}

// isHolds compares Is with the second statement. (The library takes more texts than Parse does; what it takes them for is written otherwise.)
func isHolds(t *testing.T, s string) bool {
	t.Helper()
	v, ok := decoded(s)
	want := ok && written(v) == s
	if got := canon.Is(s); got != want {
		t.Fatalf("Is(%q) = %v, want %v", s, got, want)
	}
	return want
}

func randomString(r *rand.Rand) string {
	s := ""
	for range r.Intn(4) {
		if r.Intn(3) == 0 {
			s += string(rune(r.Intn(130)))
		} else {
			s += []string{"a", "b", `"`, `\`, "/", "\u00e4", "\u20ac", "\uffff", "\U0001f600", "\x00", "\n", "\x1f", "n", "u"}[r.Intn(14)]
		}
	}
	return s
}

func randomValue(r *rand.Rand, size int) api.Value {
	switch r.Intn(8) {
	case 0:
		return api.Value{}
	case 1:
		return value.Bool(r.Intn(2) == 1)
	case 2:
		return value.Int([]int64{0, 1, -1, api.MaxInt, -api.MaxInt, r.Int63() >> 10, -r.Int63() >> 10, int64(r.Intn(300))}[r.Intn(8)])
	case 3:
		return value.Text(randomString(r))
	case 4, 5:
		var l []api.Value
		for range r.Intn(size + 1) {
			l = append(l, randomValue(r, size-1))
		}
		return value.List(l...)
	}
	var m []api.Member
	for range r.Intn(size + 1) {
		m = append(m, member(randomString(r), randomValue(r, size-1)))
	}
	return value.Map(m...)
}

func TestRandomValues(t *testing.T) {
	r := rand.New(rand.NewSource(4))
	seen := map[string]api.Value{}
	for range 30000 {
		v := randomValue(r, 4)
		s := written(v)
		wantText(t, v, s)
		if other, there := seen[s]; there && !value.Same(v, other) {
			t.Fatalf("%+v and %+v: both %q", v, other, s)
		}
		seen[s] = v
	}
	if len(seen) < 10000 {
		t.Errorf("only %d values", len(seen))
	}
}

func TestIsOfPiecesInEveryOrder(t *testing.T) {
	pieces := []string{"[", "]", "{", "}", ":", ",", `"a"`, `"b"`, `"\u0061"`, "1", "0", "-", "null", " ", `"`, `\n`}
	seen := map[bool]int{}
	var walk func(s string, left int)
	walk = func(s string, left int) {
		seen[isHolds(t, s)]++
		if left == 0 {
			return
		}
		for _, p := range pieces {
			walk(s+p, left-1)
		}
	}
	walk("", 4)
	walk(`{"a":1,`, 4)
	walk(`[{"b":2}`, 3)
	walk(strings.Repeat("[", 49)+`{"a":[`, 3)
	if seen[true] < 100 || seen[false] < 100 {
		t.Errorf("too few of one sort: %v", seen)
	}
}

// rewritten writes v in another way, by white space, by the order of members and by escapes.
func rewritten(r *rand.Rand, v api.Value) string {
	space := func() string { return []string{"", "", "", " ", "\t", "\n", "\r"}[r.Intn(7)] }
	var items []string
	switch v.Kind {
	case api.Text:
		return anyLiteral(r, v.S)
	case api.List:
		for _, x := range v.L {
			items = append(items, space()+rewritten(r, x)+space())
		}
		return "[" + strings.Join(items, ",") + space() + "]"
	case api.Map:
		for _, m := range v.M {
			items = append(items, space()+anyLiteral(r, m.Key)+space()+":"+space()+rewritten(r, m.V))
		}
		r.Shuffle(len(items), func(i, j int) { items[i], items[j] = items[j], items[i] })
		return "{" + space() + strings.Join(items, ",") + "}"
	}
	return written(v)
}

// anyLiteral writes some of the characters of s as numbers, in small or great letters.
func anyLiteral(r *rand.Rand, s string) string {
	out := `"`
	for _, c := range s {
		form := []string{`\u%04x`, `\u%04X`, "", "", ""}[r.Intn(5)]
		if form == "" || c > 0xffff {
			out += escapes.Replace(string(c))
		} else {
			out += fmt.Sprintf(form, c)
		}
	}
	return out + `"`
}

// P4.2 on random values: all texts of one value lead to one result, which alone Is accepts.
func TestRandomTexts(t *testing.T) {
	r := rand.New(rand.NewSource(5))
	seen := map[bool]int{}
	for range 30000 {
		v := randomValue(r, 4)
		s := rewritten(r, v)
		oneResult(t, v, s)
		seen[isHolds(t, s)]++
		cut := s[:r.Intn(len(s))]
		isHolds(t, cut)
		isHolds(t, cut+[]string{"", " ", "\n", ",", "]", "}", "0", `"`, `\`, "\xff", "a"}[r.Intn(11)]+s[len(cut):])
	}
	if seen[true] < 1000 || seen[false] < 1000 {
		t.Errorf("too few of one sort: %v", seen)
	}
}

// R1: no bytes at all make a call panic.
func TestIsOfRandomBytes(t *testing.T) {
	r := rand.New(rand.NewSource(6))
	for range 50000 {
		b := make([]byte, r.Intn(12))
		for i := range b {
			b[i] = byte(r.Intn(256))
			if r.Intn(2) == 0 {
				b[i] = `[]{}:,"\u0019-. e`[r.Intn(17)]
			}
		}
		isHolds(t, string(b))
	}
}

// Long values: a writer that copied all that it has written at each step would not end in time.
func TestLongValues(t *testing.T) {
	const many = 200000
	var l []api.Value
	var m []api.Member
	for i := range many {
		l = append(l, value.Int(int64(i)), value.List())
		m = append(m, member(strconv.Itoa(i), value.Text("\n")))
	}
	for name, v := range map[string]api.Value{
		"a List": value.List(l...),
		"a Map":  value.Map(m...),
		"a Text": value.Text(strings.Repeat("a\x00\u00e4\"", many)),
		"all":    value.Map(member("l", value.List(l...)), member("m", value.Map(m...))),
	} {
		s, e := canon.Write(v)
		if e != api.OK || s != written(v) || canon.Len(v) != len(s) || !canon.Is(s) || canon.Is(s+" ") {
			t.Errorf("%s: %d bytes, %v", name, len(s), e)
		}
		if back, e := parse.Parse(s, len(s)); e != api.OK || !value.Same(back, v) {
			t.Errorf("%s is not read back as it was: %v", name, e)
		}
	}
}
