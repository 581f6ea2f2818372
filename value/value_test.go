package value_test

import (
	"maps"
	"math/rand"
	"reflect"
	"slices"
	"strings"
	"testing"

	"introit/api"
	"introit/value"
)

func member(key string, v api.Value) api.Member { return api.Member{Key: key, V: v} }

// raw is a Map as it is written down: neither sorted nor without duplicates.
func raw(m ...api.Member) api.Value { return api.Value{Kind: api.Map, M: m} }

// plain makes empty slices nil, so that reflect.DeepEqual takes the two alike.
func plain(v api.Value) api.Value {
	out := api.Value{Kind: v.Kind, N: v.N, S: v.S}
	for _, x := range v.L {
		out.L = append(out.L, plain(x))
	}
	for _, m := range v.M {
		out.M = append(out.M, member(m.Key, plain(m.V)))
	}
	return out
}

func equal(a, b api.Value) bool { return reflect.DeepEqual(plain(a), plain(b)) }

func want(t *testing.T, what string, got, wanted api.Value) {
	t.Helper()
	if !equal(got, wanted) {
		t.Errorf("%s: %+v, want %+v", what, got, wanted)
	}
}

// nested is a value with so many levels, of lists and maps by turns.
func nested(levels int, inner api.Value) api.Value {
	for i := range levels {
		if i%2 == 0 {
			inner = value.List(value.Int(1), inner, value.Text("x"))
		} else {
			inner = value.Map(member("a", value.Int(1)), member("b", inner), member("c", api.Value{}))
		}
	}
	return inner
}

// P2.1: Bool, Int, Text, List, Map.

func TestMakesTheKindAndItsFieldAlone(t *testing.T) {
	want(t, "Bool(false)", value.Bool(false), api.Value{Kind: 1})
	want(t, "Bool(true)", value.Bool(true), api.Value{Kind: 1, N: 1})
	for _, n := range []int64{0, 1, -1, api.MaxInt, -api.MaxInt, api.MaxInt + 1, 1<<63 - 1, -1 << 63} {
		want(t, "Int", value.Int(n), api.Value{Kind: 2, N: n})
	}
	for _, s := range []string{"", "x", "\x00", "a\u00e4\U0001f600", "\xff"} {
		want(t, "Text", value.Text(s), api.Value{Kind: 3, S: s})
	}
	want(t, "List()", value.List(), api.Value{Kind: 4})
	want(t, "List of an empty slice", value.List([]api.Value{}...), api.Value{Kind: 4})
	want(t, "List", value.List(value.Int(2), value.Int(1), value.Int(2)),
		api.Value{Kind: 4, L: []api.Value{{Kind: 2, N: 2}, {Kind: 2, N: 1}, {Kind: 2, N: 2}}})
	want(t, "Map()", value.Map(), api.Value{Kind: 5})
	want(t, "Map of an empty slice", value.Map([]api.Member{}...), api.Value{Kind: 5})
}

func TestMapSortsAndKeepsTheLast(t *testing.T) {
	one, two, three := value.Int(1), value.Text("2"), value.List(value.Int(3))
	for _, c := range []struct {
		name     string
		in, want []api.Member
	}{
		{"the example", []api.Member{member("b", one), member("a", two), member("b", three)}, []api.Member{member("a", two), member("b", three)}},
		{"sorted already", []api.Member{member("a", one), member("b", two)}, []api.Member{member("a", one), member("b", two)}},
		{"one key alone", []api.Member{member("a", one), member("a", two), member("a", three)}, []api.Member{member("a", three)}},
		{"equal ones too", []api.Member{member("a", one), member("a", one)}, []api.Member{member("a", one)}},
		{"the last is Null", []api.Member{member("a", one), member("a", api.Value{})}, []api.Member{member("a", api.Value{})}},
		{"twice at the beginning", []api.Member{member("a", one), member("c", two), member("a", three)}, []api.Member{member("a", three), member("c", two)}},
		{"the empty key is first", []api.Member{member("a", one), member("", two)}, []api.Member{member("", two), member("a", one)}},
		{"a part precedes the whole", []api.Member{member("ab", one), member("a", two)}, []api.Member{member("a", two), member("ab", one)}},
		{"bytes, not UTF-16", []api.Member{member("\U00010000", one), member("\uffff", two)}, []api.Member{member("\uffff", two), member("\U00010000", one)}},
		{"bytes, not letters", []api.Member{member("a", one), member("B", two), member("\u00e4", three)}, []api.Member{member("B", two), member("a", one), member("\u00e4", three)}},
		{"ill-formed keys too", []api.Member{member("\xff", one), member("a", two), member("\xff", three)}, []api.Member{member("a", two), member("\xff", three)}},
	} {
		want(t, c.name, value.Map(c.in...), api.Value{Kind: 5, M: c.want})
	}
}

// Many members with few keys: a sort that is not stable shows itself here.
func TestMapLikeAMapOfTheLanguage(t *testing.T) {
	r := rand.New(rand.NewSource(1))
	for range 200 {
		last := map[string]int64{}
		var in []api.Member
		for i := range r.Intn(300) {
			key := strings.Repeat("k", r.Intn(4)) + string(rune('a'+r.Intn(8)))
			last[key] = int64(i)
			in = append(in, member(key, value.Int(int64(i))))
		}
		var out []api.Member
		for _, key := range slices.Sorted(maps.Keys(last)) {
			out = append(out, member(key, value.Int(last[key])))
		}
		want(t, "random members", value.Map(in...), api.Value{Kind: 5, M: out})
	}
}

// P2.1: Depth.

func TestDepth(t *testing.T) {
	for _, c := range []struct {
		name string
		v    api.Value
		want int
	}{
		{"Null", api.Value{}, 0},
		{"Bool", value.Bool(true), 0},
		{"Int", value.Int(7), 0},
		{"Text", value.Text("[[]]"), 0},
		{"an empty List", value.List(), 1},
		{"an empty Map", value.Map(), 1},
		{"a List of plain values", value.List(value.Int(1), value.Text("a")), 1},
		{"a Map of plain values", value.Map(member("a", value.Int(1))), 1},
		{"the deepest is first", value.List(value.List(value.List()), value.List()), 3},
		{"the deepest is last", value.Map(member("a", value.Int(1)), member("b", value.List(value.Map()))), 3},
		{"no kind", api.Value{Kind: 6, L: []api.Value{value.List()}, M: []api.Member{member("a", value.List())}}, 0},
		{"no kind, negative", api.Value{Kind: -1, L: []api.Value{{}}}, 0},
		{"a Text with values in it", api.Value{Kind: api.Text, L: []api.Value{value.List()}}, 0},
		{"a List counts its own field", api.Value{Kind: api.List, M: []api.Member{member("a", value.List())}}, 1},
		{"a Map counts its own field", api.Value{Kind: api.Map, L: []api.Value{value.List()}}, 1},
		{"MaxDepth", nested(api.MaxDepth, value.Int(1)), api.MaxDepth},
		{"one more", nested(api.MaxDepth+1, value.Int(1)), api.MaxDepth + 1},
		{"as deep as the limits go", nested(1<<16, value.Int(1)), 1 << 16},
	} {
		if got := value.Depth(c.v); got != c.want {
			t.Errorf("%s: Depth %d, want %d", c.name, got, c.want)
		}
	}
}

// R4: what is passed is neither changed nor kept; what is returned is new memory.

func TestListIsNewMemory(t *testing.T) {
	in := append(make([]api.Value, 0, 8), value.Int(1), value.Int(2))
	v := value.List(in...)
	in[0] = value.Int(9)
	_ = append(in, value.Int(8))
	_ = append(v.L, value.Int(7))
	want(t, "List", v, value.List(value.Int(1), value.Int(2)))
	want(t, "what was passed", in[:3][2], value.Int(8))
}

func TestMapIsNewMemory(t *testing.T) {
	in := append(make([]api.Member, 0, 8), member("b", value.Int(1)), member("a", value.Int(2)), member("b", value.Int(3)))
	before := slices.Clone(in[:cap(in)])
	v := value.Map(in...)
	if !reflect.DeepEqual(in[:cap(in)], before) {
		t.Errorf("Map changed what was passed: %v", in[:cap(in)])
	}
	_ = append(v.M, member("z", value.Int(9)))
	v.M[0].Key = "y"
	if !reflect.DeepEqual(in[:cap(in)], before) {
		t.Errorf("Map shares memory with what was passed: %v", in[:cap(in)])
	}
}
