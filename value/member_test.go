package value_test

import (
	"math/rand"
	"reflect"
	"slices"
	"strconv"
	"testing"

	"introit/api"
	"introit/value"
)

// sample is a Map with a member of each Kind.
func sample() api.Value {
	return raw(
		member("", value.Text("nameless")),
		member("a", value.Int(-5)),
		member("b", value.Text("x")),
		member("bool", value.Bool(true)),
		member("l", value.List(value.Int(1))),
		member("m", value.Map(member("a", value.Int(2)))),
		member("null", api.Value{}),
		member("z", value.Int(0)),
		member("\u00e4", value.Text("")),
	)
}

// notMaps are values of every other Kind.
func notMaps() []api.Value {
	return []api.Value{{}, value.Bool(false), value.Bool(true), value.Int(7), value.Text("a"), value.Text(""), value.List(), value.List(value.Map(member("a", value.Int(1))), value.Text("a"))}
}

// P2.3: Get, TextAt, IntAt.

func TestGet(t *testing.T) {
	v := sample()
	for _, m := range v.M {
		got, ok := value.Get(v, m.Key)
		if !ok || !equal(got, m.V) {
			t.Errorf("Get %q: %+v %v, want %+v", m.Key, got, ok, m.V)
		}
	}
	for _, key := range []string{"A", "aa", "c", "zz", "\xff", "\x00", "nul"} {
		if got, ok := value.Get(v, key); ok || !equal(got, api.Value{}) {
			t.Errorf("Get %q: %+v %v, want nothing", key, got, ok)
		}
	}
	if _, ok := value.Get(value.Map(), ""); ok {
		t.Error("an empty Map has a member")
	}
}

func TestGetOfWhatIsNoMap(t *testing.T) {
	for _, v := range notMaps() {
		for _, key := range []string{"a", ""} {
			x, ok := value.Get(v, key)
			s, isText := value.TextAt(v, key)
			n, isInt := value.IntAt(v, key)
			if ok || isText || isInt || s != "" || n != 0 || !equal(x, api.Value{}) {
				t.Errorf("%+v at %q: Get %+v %v, TextAt %q %v, IntAt %d %v", v, key, x, ok, s, isText, n, isInt)
			}
		}
	}
}

func TestTextAtAndIntAt(t *testing.T) {
	v := sample()
	for _, m := range append(v.M, member("lacks", api.Value{})) {
		s, isText := value.TextAt(v, m.Key)
		if isText != (m.V.Kind == api.Text) || s != m.V.S {
			t.Errorf("TextAt %q: %q %v, the member is %+v", m.Key, s, isText, m.V)
		}
		n, isInt := value.IntAt(v, m.Key)
		wantN := m.V.N
		if m.V.Kind != api.Int {
			wantN = 0
		}
		if isInt != (m.V.Kind == api.Int) || n != wantN {
			t.Errorf("IntAt %q: %d %v, the member is %+v", m.Key, n, isInt, m.V)
		}
	}
}

// P2.3: Set, Keep, Drop.

func TestSet(t *testing.T) {
	v := value.Map(member("b", value.Int(1)), member("d", value.Int(2)))
	nine := value.List(value.Int(9))
	for _, c := range []struct {
		key  string
		want api.Value
	}{
		{"b", raw(member("b", nine), member("d", value.Int(2)))},
		{"d", raw(member("b", value.Int(1)), member("d", nine))},
		{"", raw(member("", nine), member("b", value.Int(1)), member("d", value.Int(2)))},
		{"a", raw(member("a", nine), member("b", value.Int(1)), member("d", value.Int(2)))},
		{"c", raw(member("b", value.Int(1)), member("c", nine), member("d", value.Int(2)))},
		{"bb", raw(member("b", value.Int(1)), member("bb", nine), member("d", value.Int(2)))},
		{"\u00e4", raw(member("b", value.Int(1)), member("d", value.Int(2)), member("\u00e4", nine))},
	} {
		want(t, "Set "+strconv.Quote(c.key), value.Set(v, c.key, nine), c.want)
	}
	want(t, "Set in an empty Map", value.Set(value.Map(), "a", api.Value{}), raw(member("a", api.Value{})))
	want(t, "what was passed", v, raw(member("b", value.Int(1)), member("d", value.Int(2))))
	for _, x := range notMaps() {
		want(t, "Set of what is no Map", value.Set(x, "a", nine), x)
	}
}

func TestKeepAndDrop(t *testing.T) {
	v := value.Map(member("a", value.Int(1)), member("b", value.Int(2)), member("c", value.Int(3)))
	for _, c := range []struct {
		name       string
		keys       []string
		keep, drop api.Value
	}{
		{"no keys", nil, raw(), v},
		{"an empty slice", []string{}, raw(), v},
		{"in another order", []string{"c", "a"}, raw(v.M[0], v.M[2]), raw(v.M[1])},
		{"a key twice", []string{"b", "b"}, raw(v.M[1]), raw(v.M[0], v.M[2])},
		{"keys that lack", []string{"", "aa", "q"}, raw(), v},
		{"some of them lack", []string{"q", "c", "bb"}, raw(v.M[2]), raw(v.M[0], v.M[1])},
		{"all", []string{"a", "b", "c"}, v, raw()},
	} {
		want(t, "Keep, "+c.name, value.Keep(v, c.keys...), c.keep)
		want(t, "Drop, "+c.name, value.Drop(v, c.keys...), c.drop)
	}
	want(t, "Keep of an empty Map", value.Keep(value.Map(), "a"), raw())
	want(t, "Drop of an empty Map", value.Drop(value.Map(), "a"), raw())
	for _, x := range notMaps() {
		want(t, "Keep of what is no Map", value.Keep(x, "a"), x)
		want(t, "Keep of what is no Map, no keys", value.Keep(x), x)
		want(t, "Drop of what is no Map", value.Drop(x, "a"), x)
	}
}

// Each call against a search that goes through all members.
func TestMembersRandom(t *testing.T) {
	r := rand.New(rand.NewSource(3))
	word := func() string { return strconv.Itoa(r.Intn(30)) }
	for range 2000 {
		var m []api.Member
		for range r.Intn(20) {
			m = append(m, member(word(), value.Int(int64(r.Intn(100)))))
		}
		v := value.Map(m...)
		var keys []string
		for range r.Intn(10) {
			keys = append(keys, word())
		}
		var kept, left []api.Member
		for _, x := range v.M {
			if slices.Contains(keys, x.Key) {
				kept = append(kept, x)
			} else {
				left = append(left, x)
			}
		}
		want(t, "Keep", value.Keep(v, keys...), raw(kept...))
		want(t, "Drop", value.Drop(v, keys...), raw(left...))
		key, x := word(), value.Text("new")
		set := value.Set(v, key, x)
		want(t, "Set", set, value.Map(append(slices.Clone(v.M), member(key, x))...))
		if got, ok := value.Get(set, key); !ok || !equal(got, x) || !value.Good(set) {
			t.Fatalf("Get after Set: %+v %v in %+v", got, ok, set)
		}
	}
}

// R4: neither the members nor the keys that are passed are changed, spare capacity included; results are new memory.
func TestMembersAreNewMemory(t *testing.T) {
	back := []api.Member{member("a", value.Int(1)), member("b", value.Int(2)), member("c", value.Int(3)), member("spare", value.Int(4)), member("spare", value.Int(5))}
	keys := []string{"c", "b", "spare"}
	before, keysBefore := slices.Clone(back), slices.Clone(keys)
	v := raw(back[:3]...)
	for name, got := range map[string]api.Value{
		"Set, a new key": value.Set(v, "bb", value.Int(9)),
		"Set, at end":    value.Set(v, "d", value.Int(9)),
		"Set, a member":  value.Set(v, "b", value.Int(9)),
		"Keep":           value.Keep(v, keys[:2]...),
		"Keep all":       value.Keep(v, "a", "b", "c"),
		"Drop":           value.Drop(v, keys[:2]...),
		"Drop nothing":   value.Drop(v),
	} {
		for i := range got.M {
			got.M[i] = member("changed", value.Int(-1))
		}
		_ = append(got.M, member("changed", value.Int(-1)))
		if !reflect.DeepEqual(back, before) || !slices.Equal(keys, keysBefore) {
			t.Fatalf("%s: what was passed is now %v and %v", name, back, keys)
		}
	}
}

// Many keys and many members: a search of each for each would not end in time.
func TestKeepOfMany(t *testing.T) {
	var m []api.Member
	var keys []string
	for i := range 200000 {
		m = append(m, member(strconv.Itoa(i), value.Int(int64(i))))
		keys = append(keys, strconv.Itoa(2*i))
	}
	v := value.Map(m...)
	if kept, left := value.Keep(v, keys...), value.Drop(v, keys...); len(kept.M) != 100000 || len(left.M) != 100000 {
		t.Errorf("kept %d, left %d", len(kept.M), len(left.M))
	}
}

// P2.3: Same.

func TestSame(t *testing.T) {
	l, m := value.List(value.Int(1), value.Int(2)), value.Map(member("a", value.Int(1)), member("b", value.Int(2)))
	for _, c := range []struct {
		name string
		a, b api.Value
		want bool
	}{
		{"Null", api.Value{}, api.Value{}, true},
		{"Bool", value.Bool(true), value.Bool(true), true},
		{"the other Bool", value.Bool(true), value.Bool(false), false},
		{"Int", value.Int(5), value.Int(5), true},
		{"another Int", value.Int(5), value.Int(-5), false},
		{"Text", value.Text("a"), value.Text("a"), true},
		{"another Text", value.Text("a"), value.Text("ab"), false},
		{"Null and false", api.Value{}, value.Bool(false), false},
		{"true and 1", value.Bool(true), value.Int(1), false},
		{"Null and an empty Text", api.Value{}, value.Text(""), false},
		{"empty List and empty Map", value.List(), value.Map(), false},
		{"nil and empty List", api.Value{Kind: api.List}, api.Value{Kind: api.List, L: []api.Value{}}, true},
		{"nil and empty Map", api.Value{Kind: api.Map, M: []api.Member{}}, api.Value{Kind: api.Map}, true},
		{"foreign empty slices", value.Int(1), api.Value{Kind: api.Int, N: 1, L: []api.Value{}, M: []api.Member{}}, true},
		{"List", l, value.List(value.Int(1), value.Int(2)), true},
		{"List, another order", l, value.List(value.Int(2), value.Int(1)), false},
		{"List, one less", l, value.List(value.Int(1)), false},
		{"List, one more", l, value.List(value.Int(1), value.Int(2), value.Int(2)), false},
		{"Map", m, value.Map(member("b", value.Int(2)), member("a", value.Int(1))), true},
		{"Map, another key", m, value.Map(member("a", value.Int(1)), member("c", value.Int(2))), false},
		{"Map, another value", m, value.Map(member("a", value.Int(1)), member("b", value.Int(3))), false},
		{"Map, one less", m, value.Map(member("a", value.Int(1))), false},
		{"Map, one more", m, value.Set(m, "c", api.Value{}), false},
		{"far within", nested(50, value.Int(1)), nested(50, value.Int(1)), true},
		{"far within, another", nested(50, value.Int(1)), nested(50, value.Int(2)), false},
		{"one level more", nested(49, value.List()), nested(50, value.List()), false},
	} {
		if value.Same(c.a, c.b) != c.want || value.Same(c.b, c.a) != c.want {
			t.Errorf("%s: %v and %v, want %v", c.name, value.Same(c.a, c.b), value.Same(c.b, c.a), c.want)
		}
	}
}

func TestSameRandom(t *testing.T) {
	r := rand.New(rand.NewSource(4))
	for range 20000 {
		a, b := randomValue(r, 3), randomValue(r, 3)
		if r.Intn(2) == 0 {
			b = plain(a)
			spoil(r, &b)
		}
		if !value.Same(a, plain(a)) || value.Same(a, b) != equal(a, b) {
			t.Fatalf("Same(%+v, %+v) is %v", a, b, value.Same(a, b))
		}
	}
}

// R1: on values that are not valid no result is specified, yet every call must end without a panic.
func TestOtherValuesDoNotPanic(t *testing.T) {
	r := rand.New(rand.NewSource(5))
	for range 20000 {
		v, x := plain(randomValue(r, 3)), plain(randomValue(r, 2))
		spoil(r, &v)
		spoil(r, &v)
		spoil(r, &x)
		for _, key := range []string{"", "a", "zz", "\xff"} {
			value.Get(v, key)
			value.Set(v, key, x)
			value.Keep(v, key, "b")
			value.Drop(v, key, "b")
			value.TextAt(v, key)
			value.IntAt(v, key)
		}
		value.Same(v, x)
		value.Depth(v)
	}
}
