package value

import (
	"introit/api"
	"introit/utf"
)

// node is a value whose own fields are tested, without the values in it.
type node api.Value

// Good reports whether v is valid.
func Good(v api.Value) bool { return valid(v, kindTests(), api.MaxDepth) }

// kindTests returns the test of each Kind, at the Kind's number.
func kindTests() []func(node) bool {
	return []func(node) bool{
		api.Null: node.isNull,
		api.Bool: node.isBool,
		api.Int:  node.isInt,
		api.Text: node.isText,
		api.List: node.isList,
		api.Map:  node.isMap,
	}
}

// valid counts the levels down, so that a value that is far too deep is left at once.
func valid(v api.Value, tests []func(node) bool, levels int) bool {
	if v.Kind < 0 || v.Kind >= len(tests) || !tests[v.Kind](node(v)) {
		return false
	}
	if nests(v) && levels == 0 {
		return false
	}
	for x := range within(v) {
		if !valid(x, tests, levels-1) {
			return false
		}
	}
	return true
}

func (n node) isNull() bool { return n.N == 0 && n.S == "" && n.holdsNothing() }

func (n node) isBool() bool { return (n.N == 0 || n.N == 1) && n.S == "" && n.holdsNothing() }

func (n node) isInt() bool {
	return -api.MaxInt <= n.N && n.N <= api.MaxInt && n.S == "" && n.holdsNothing()
}

func (n node) isText() bool { return n.N == 0 && utf.Good(n.S) && n.holdsNothing() }

func (n node) isList() bool { return n.N == 0 && n.S == "" && len(n.M) == 0 }

func (n node) isMap() bool { return n.N == 0 && n.S == "" && len(n.L) == 0 && n.keysAscend() }

// holdsNothing takes a nil slice and an empty one alike.
func (n node) holdsNothing() bool { return len(n.L) == 0 && len(n.M) == 0 }

func (n node) keysAscend() bool {
	for i, m := range n.M {
		if !utf.Good(m.Key) {
			return false
		}
		if i > 0 && !utf.Less(n.M[i-1].Key, m.Key) {
			return false
		}
	}
	return true
}
