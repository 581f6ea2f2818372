// Package utf checks UTF-8 and writes and reads JSON string literals: see DOC.md, chapter 1.
package utf

import (
	"introit/api"
)

// Good reports whether s is well-formed UTF-8.
func Good(s string) bool { return Runes(s) >= 0 }

// Runes returns the number of code points of s, or -1 if s is not well-formed.
func Runes(s string) int {
	c := cursor{s: s}
	next := c.next
	n := 0
	for b, ok := next(); ok; b, ok = next() {
		if _, good := point(b, next); !good {
			return -1
		}
		n++
	}
	return n
}

// Less reports whether a precedes b in bytewise order.
func Less(a, b string) bool { return a < b }

// Quote returns s as a JSON string literal.
func Quote(s string) (string, api.Errno) {
	if !Good(s) {
		return "", api.ErrForm
	}
	c := cursor{s: s}
	next := c.next
	out := []byte{'"'}
	for b, ok := next(); ok; b, ok = next() {
		out = appendByte(out, b)
	}
	return string(append(out, '"')), api.OK
}

// Unquote returns the string that the JSON literal at the beginning of s denotes, and the literal's length in bytes.
func Unquote(s string) (string, int, api.Errno) {
	c := cursor{s: s}
	next := c.next
	if b, ok := next(); !ok || b != '"' {
		return "", 0, api.ErrForm
	}
	var out []byte
	for {
		b, ok := next()
		if !ok || b < 32 {
			return "", 0, api.ErrForm
		}
		if b == '"' {
			return string(out), c.at, api.OK
		}
		r, ok := symbol(b, next)
		if !ok {
			return "", 0, api.ErrForm
		}
		out = append(out, string(r)...)
	}
}
