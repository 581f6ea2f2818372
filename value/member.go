package value

import (
	"slices"

	"introit/api"
)

// Get returns the value of the member of v that has this key; false if v is not a Map or has no such member.
func Get(v api.Value, key string) (api.Value, bool) {
	if v.Kind != api.Map {
		return api.Value{}, false
	}
	at, found := place(v.M, key)
	if !found {
		return api.Value{}, false
	}
	return v.M[at].V, true
}

// Set returns the Map v with the member key set to x.
func Set(v api.Value, key string, x api.Value) api.Value {
	if v.Kind != api.Map {
		return v
	}
	at, found := place(v.M, key)
	rest := v.M[at:]
	if found {
		rest = rest[1:]
	}
	return mapOf(slices.Concat(v.M[:at], []api.Member{{Key: key, V: x}}, rest))
}

// Keep returns the Map v with only the members that have one of these keys.
func Keep(v api.Value, keys ...string) api.Value { return choose(v, keys, true) }

// Drop returns the Map v without the members that have one of these keys.
func Drop(v api.Value, keys ...string) api.Value { return choose(v, keys, false) }

// TextAt returns the Text that is v's member key; false if there is none.
func TextAt(v api.Value, key string) (string, bool) {
	x, ok := Get(v, key)
	if !ok || x.Kind != api.Text {
		return "", false
	}
	return x.S, true
}

// IntAt returns the Int that is v's member key; false if there is none.
func IntAt(v api.Value, key string) (int64, bool) {
	x, ok := Get(v, key)
	if !ok || x.Kind != api.Int {
		return 0, false
	}
	return x.N, true
}

// place returns where in m, which ascends, the key is or would have to be inserted.
func place(m []api.Member, key string) (int, bool) {
	return slices.BinarySearchFunc(m, key, func(x api.Member, key string) int { return compare(x.Key, key) })
}

// choose returns the Map v with only the members whose key is among keys (named) or is not (not named).
func choose(v api.Value, keys []string, named bool) api.Value {
	if v.Kind != api.Map {
		return v
	}
	// Sorted once, so that many keys and many members do not multiply.
	sorted := slices.SortedFunc(slices.Values(keys), compare)
	var out []api.Member
	for _, m := range v.M {
		if _, found := slices.BinarySearchFunc(sorted, m.Key, compare); found == named {
			out = append(out, m)
		}
	}
	return mapOf(out)
}
