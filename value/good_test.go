package value_test

import (
	"math/rand"
	"testing"
	"unicode/utf8"

	"introit/api"
	"introit/value"
)

// P2.2: Good.

type goodCase struct {
	name string
	v    api.Value
	want bool
}

func runGood(t *testing.T, cases []goodCase) {
	t.Helper()
	for _, c := range cases {
		if got := value.Good(c.v); got != c.want {
			t.Errorf("%s: Good %v, want %v", c.name, got, c.want)
		}
		if got := value.Good(value.List(c.v)); got != c.want {
			t.Errorf("%s, in a List: Good %v, want %v", c.name, got, c.want)
		}
		if got := value.Good(value.Map(member("a", value.Int(1)), member("b", c.v))); got != c.want {
			t.Errorf("%s, in a Map: Good %v, want %v", c.name, got, c.want)
		}
	}
}

func TestGoodKinds(t *testing.T) {
	runGood(t, []goodCase{
		{"Null", api.Value{}, true},
		{"Bool", api.Value{Kind: api.Bool}, true},
		{"Int", api.Value{Kind: api.Int}, true},
		{"Text", api.Value{Kind: api.Text}, true},
		{"List", api.Value{Kind: api.List}, true},
		{"Map", api.Value{Kind: api.Map}, true},
		{"Kind 6", api.Value{Kind: 6}, false},
		{"Kind -1", api.Value{Kind: -1}, false},
		{"the greatest Kind", api.Value{Kind: 1<<63 - 1}, false},
		{"the least Kind", api.Value{Kind: -1 << 63}, false},
		{"a Kind that is Null modulo 2^32", api.Value{Kind: 1 << 32}, false},
	})
}

func TestGoodForeignFields(t *testing.T) {
	// Which field belongs to which Kind.
	own := map[int]string{api.Null: "", api.Bool: "N", api.Int: "N", api.Text: "S", api.List: "L", api.Map: "M"}
	fill := map[string]func(*api.Value){
		"N": func(v *api.Value) { v.N = 1 },
		"S": func(v *api.Value) { v.S = "a" },
		"L": func(v *api.Value) { v.L = []api.Value{{}} },
		"M": func(v *api.Value) { v.M = []api.Member{{}} },
	}
	for kind, field := range own {
		for name, f := range fill {
			v := api.Value{Kind: kind}
			f(&v)
			runGood(t, []goodCase{{"Kind " + string(rune('0'+kind)) + " with " + name, v, name == field}})
		}
		empty := api.Value{Kind: kind, L: []api.Value{}, M: []api.Member{}}
		runGood(t, []goodCase{{"empty slices for nil ones", empty, true}})
	}
}

func TestGoodNumbers(t *testing.T) {
	runGood(t, []goodCase{
		{"Bool 0", api.Value{Kind: api.Bool, N: 0}, true},
		{"Bool 1", api.Value{Kind: api.Bool, N: 1}, true},
		{"Bool 2", api.Value{Kind: api.Bool, N: 2}, false},
		{"Bool -1", api.Value{Kind: api.Bool, N: -1}, false},
		{"Bool 2^32", api.Value{Kind: api.Bool, N: 1 << 32}, false},
		{"Int MaxInt", value.Int(api.MaxInt), true},
		{"Int -MaxInt", value.Int(-api.MaxInt), true},
		{"Int MaxInt+1", value.Int(api.MaxInt + 1), false},
		{"Int -MaxInt-1", value.Int(-api.MaxInt - 1), false},
		{"the greatest", value.Int(1<<63 - 1), false},
		{"the least", value.Int(-1 << 63), false},
	})
}

func TestGoodTexts(t *testing.T) {
	runGood(t, []goodCase{
		{"empty", value.Text(""), true},
		{"control characters", value.Text("\x00\x1f\x7f"), true},
		{"all lengths", value.Text("a\u00e4\u20ac\U0001f600"), true},
		{"a byte that never is", value.Text("\xff"), false},
		{"a surrogate", value.Text("\xed\xa0\x80"), false},
		{"cut off", value.Text("abc\xe2\x82"), false},
		{"too long a form", value.Text("\xc0\x80"), false},
	})
}

func TestGoodKeys(t *testing.T) {
	keys := func(l ...string) api.Value {
		v := api.Value{Kind: api.Map}
		for _, k := range l {
			v.M = append(v.M, member(k, value.Int(1)))
		}
		return v
	}
	runGood(t, []goodCase{
		{"the empty key", keys(""), true},
		{"ascending", keys("", "A", "a", "a\x00", "ab", "b", "\u00e4", "\uffff", "\U00010000"), true},
		{"descending", keys("b", "a"), false},
		{"twice", keys("a", "a"), false},
		{"the empty key twice", keys("", ""), false},
		{"twice, not side by side", keys("a", "b", "a"), false},
		{"the last two descend", keys("a", "c", "b"), false},
		{"the last two are equal", keys("a", "b", "b"), false},
		{"the order of UTF-16", keys("\U00010000", "\uffff"), false},
		{"ill-formed, alone", keys("\xff"), false},
		{"ill-formed, first", keys("\x80", "\uffff"), false},
		{"ill-formed, last", keys("a", "b\xff"), false},
	})
}

func TestGoodWithin(t *testing.T) {
	bad := value.Int(api.MaxInt + 1)
	runGood(t, []goodCase{
		{"first of a List", value.List(bad, value.Int(1)), false},
		{"last of a List", value.List(value.Int(1), bad), false},
		{"first of a Map", value.Map(member("a", bad), member("b", value.Int(1))), false},
		{"last of a Map", value.Map(member("a", value.Int(1)), member("b", bad)), false},
		{"far within", nested(20, bad), false},
		{"nothing wrong far within", nested(20, value.Int(api.MaxInt)), true},
	})
}

func TestGoodDepth(t *testing.T) {
	lists, maps := value.List(), value.Map()
	for range api.MaxDepth - 1 {
		lists, maps = value.List(lists), value.Map(member("a", maps))
	}
	for _, c := range []goodCase{
		{"plain values MaxDepth deep", nested(api.MaxDepth, value.Text("x")), true},
		{"an empty List one level deeper", nested(api.MaxDepth, value.List()), false},
		{"an empty Map one level deeper", nested(api.MaxDepth, value.Map()), false},
		{"one level more", nested(api.MaxDepth+1, value.Int(1)), false},
		{"as deep as the limits go", nested(1<<16, value.Int(1)), false},
		{"lists alone", lists, true},
		{"maps alone", maps, true},
		{"lists alone, one more", value.List(lists), false},
		{"maps alone, one more", value.Map(member("a", maps)), false},
		{"too deep in the first", value.List(lists, value.Int(1)), false},
		{"too deep in the last", value.List(value.List(), maps), false},
	} {
		if got := value.Good(c.v); got != c.want {
			t.Errorf("%s: Good %v, want %v", c.name, got, c.want)
		}
	}
}

// A list that holds itself has no Depth at all: Good must end nevertheless.
func TestGoodEndsOnAListThatHoldsItself(t *testing.T) {
	l := make([]api.Value, 2)
	l[0] = api.Value{Kind: api.List, L: l}
	l[1] = l[0]
	if value.Good(l[0]) {
		t.Error("a list that holds itself is valid")
	}
}

// soundValue says P2.2 once more, clause by clause.
func soundValue(v api.Value) bool {
	if v.Kind < 0 || v.Kind > 5 || value.Depth(v) > api.MaxDepth {
		return false
	}
	if v.N != 0 && v.Kind != api.Bool && v.Kind != api.Int || v.S != "" && v.Kind != api.Text {
		return false
	}
	if len(v.L) > 0 && v.Kind != api.List || len(v.M) > 0 && v.Kind != api.Map {
		return false
	}
	if v.Kind == api.Bool && v.N>>1 != 0 || v.N > 1<<53-1 || v.N < -(1<<53-1) || !utf8.ValidString(v.S) {
		return false
	}
	for _, x := range v.L {
		if !soundValue(x) {
			return false
		}
	}
	for i, m := range v.M {
		if !utf8.ValidString(m.Key) || !soundValue(m.V) || i > 0 && m.Key <= v.M[i-1].Key {
			return false
		}
	}
	return true
}

func randomValue(r *rand.Rand, size int) api.Value {
	texts := []string{"", "a", "b", "ab", "\u00e4", "\U0001f600", "c", "d"}
	v := api.Value{Kind: r.Intn(6)}
	switch v.Kind {
	case api.Bool:
		v.N = int64(r.Intn(2))
	case api.Int:
		v.N = []int64{0, 1, -1, api.MaxInt, -api.MaxInt}[r.Intn(5)]
	case api.Text:
		v.S = texts[r.Intn(len(texts))]
	case api.List:
		for range r.Intn(size + 1) {
			v.L = append(v.L, randomValue(r, size-1))
		}
	case api.Map:
		var m []api.Member
		for range r.Intn(size + 1) {
			m = append(m, member(texts[r.Intn(len(texts))], randomValue(r, size-1)))
		}
		v = value.Map(m...)
	}
	return v
}

// spoil changes one field somewhere in v, which may leave v valid.
func spoil(r *rand.Rand, v *api.Value) {
	if len(v.L) > 0 && r.Intn(3) > 0 {
		spoil(r, &v.L[r.Intn(len(v.L))])
		return
	}
	if len(v.M) > 0 && r.Intn(3) > 0 {
		spoil(r, &v.M[r.Intn(len(v.M))].V)
		return
	}
	switch r.Intn(6) {
	case 0:
		v.Kind = r.Intn(8) - 1
	case 1:
		v.N = []int64{0, 1, 2, -1, api.MaxInt, api.MaxInt + 1, -api.MaxInt - 1}[r.Intn(7)]
	case 2:
		v.S = []string{"", "a", "\xff"}[r.Intn(3)]
	case 3:
		v.L = append(v.L, api.Value{})
	case 4:
		v.M = append(v.M, member([]string{"", "b", "zz", "\xff"}[r.Intn(4)], api.Value{}))
	case 5:
		if n := len(v.M); n > 0 {
			v.M[r.Intn(n)].Key = []string{"", "a", "zz", "\xff"}[r.Intn(4)]
		}
	}
}

func TestGoodRandom(t *testing.T) {
	r := rand.New(rand.NewSource(2))
	seen := map[bool]int{}
	for range 20000 {
		v := plain(randomValue(r, 4))
		if !value.Good(v) {
			t.Fatalf("a valid value: Good(%+v) is false", v)
		}
		spoil(r, &v)
		seen[soundValue(v)]++
		if got := value.Good(v); got != soundValue(v) {
			t.Fatalf("Good(%+v) is %v", v, got)
		}
	}
	if seen[true] < 1000 || seen[false] < 1000 {
		t.Errorf("too few of one sort: %v", seen)
	}
}
