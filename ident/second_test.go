package ident_test

import (
	"math/rand"
	"regexp"
	"strings"
	"testing"

	"introit/ident"
)

// A second statement of P11.1: regular expressions, and what they find in strings of many kinds.

// A grammar is the chapter's words as regular expressions.
type grammar struct{ server, user, room, event, key *regexp.Regexp }

func chapters() grammar {
	const server = `([A-Za-z0-9.-]+(?::[0-9]{1,5})?)`
	const local = `([\x21-\x39\x3b-\x7e]+)`
	whole := func(s string) *regexp.Regexp { return regexp.MustCompile(`\A(?:` + s + `)\z`) }
	return grammar{
		server: whole(server),
		user:   whole(`@` + local + `:` + server),
		room:   whole(`!` + local + `:` + server),
		event:  whole(`\$[A-Za-z0-9_-]{42}[AEIMQUYcgkosw048]`),
		key:    whole(`ed25519:[A-Za-z0-9_]{1,32}`),
	}
}

// find returns the groups of e in s; false if s is longer than the limit, or e is not all of it.
func find(e *regexp.Regexp, s string) (string, string, bool) {
	l := e.FindStringSubmatch(s)
	if l == nil || len(s) > 255 {
		return "", "", false
	}
	l = append(l, "", "")
	return l[1], l[2], true
}

// hold checks all six functions; it counts in seen what kinds s is of.
func (g grammar) hold(t *testing.T, s string, seen map[string]int) {
	t.Helper()
	check := func(kind string, got, want bool) {
		if got != want {
			t.Fatalf("%s %q: %v, want %v", kind, s, got, want)
		}
		if want {
			seen[kind]++
		} else {
			seen["no "+kind]++
		}
	}
	_, _, want := find(g.server, s)
	check("server", ident.Server(s), want)
	_, _, want = find(g.event, s)
	check("event", ident.Event(s), want)
	_, _, want = find(g.key, s)
	check("key", ident.KeyID(s), want)

	server := ""
	for _, k := range []struct {
		kind string
		e    *regexp.Regexp
		call func(string) (string, string, bool)
	}{{"user", g.user, ident.User}, {"room", g.room, ident.Room}} {
		a, b, ok := find(k.e, s)
		gotA, gotB, got := k.call(s)
		check(k.kind, got, ok)
		if gotA != a || gotB != b {
			t.Fatalf("%s %q: %q and %q, want %q and %q", k.kind, s, gotA, gotB, a, b)
		}
		server += b
	}
	if got := ident.ServerOf(s); got != server {
		t.Fatalf("server of %q: %q, want %q", s, got, server)
	}
}

// wantSeen checks that there were enough of each kind to tell.
func wantSeen(t *testing.T, seen map[string]int, least int, kinds ...string) {
	t.Helper()
	for _, k := range kinds {
		if seen[k] < least || seen["no "+k] < least {
			t.Errorf("%s: too few: %d, and %d that are none", k, seen[k], seen["no "+k])
		}
	}
}

// All strings of up to three bytes of which the first is a sign or missing.
func TestAllShortStrings(t *testing.T) {
	g, seen := chapters(), map[string]int{}
	for _, sign := range []string{"", "@", "!", "$", "a", "@a:", "!a:", "a:", "ed25519:"} {
		for _, a := range a256() {
			for _, b := range a256() {
				g.hold(t, sign+a+b, seen)
			}
			g.hold(t, sign+a, seen)
			g.hold(t, sign+a+":b", seen)
		}
		g.hold(t, sign, seen)
	}
	wantSeen(t, seen, 100, "server", "user", "room", "key")
}

// All strings of up to six pieces.
func TestPiecesInEveryOrder(t *testing.T) {
	g, seen := chapters(), map[string]int{}
	pieces := []string{":", "1", "a", "12345", ".", "_", "@", "!", "\x80"}
	var walk func(s string, left int)
	walk = func(s string, left int) {
		g.hold(t, s, seen)
		if left == 0 {
			return
		}
		for _, p := range pieces {
			walk(s+p, left-1)
		}
	}
	for _, p := range []string{"@", "!", "$", "ed25519:"} {
		walk(p, 4)
	}
	walk("", 5)
	wantSeen(t, seen, 100, "server", "user", "room", "key")
}

// someName returns a string of which each kind is often, with parts of any size.
func someName(r *rand.Rand) string {
	of := func(alphabet string, least, most int) string {
		b := make([]byte, least+r.Intn(most-least+1))
		for i := range b {
			b[i] = alphabet[r.Intn(len(alphabet))]
		}
		return string(b)
	}
	sizes := []int{1, 3, 40, 126, 260}
	server := of(ofServer, 1, sizes[r.Intn(5)])
	if r.Intn(2) == 0 {
		server += ":" + of(digits, 0, 7)
	}
	switch r.Intn(5) {
	case 0:
		return server
	case 1:
		return "@" + of(ofLocal(), 0, sizes[r.Intn(5)]) + ":" + server
	case 2:
		return "!" + of(ofLocal(), 0, sizes[r.Intn(5)]) + ":" + server
	case 3:
		return "$" + of(ofEvent, 41, 43) + of(lastOf, 0, 1)
	}
	return "ed25519:" + of(ofKey, 0, 34)
}

// Random strings; and the same with one byte changed, taken away, doubled or put in.
func TestRandomStrings(t *testing.T) {
	g, seen := chapters(), map[string]int{}
	r := rand.New(rand.NewSource(11))
	odd := []string{":", "@", "!", "$", ".", "-", "_", "1", "a", "=", "+", "/", " ", "~", "\x7f", "\x80", "\xff", "\u00e4", "\n", "\x00"}
	for range 40000 {
		s := someName(r)
		g.hold(t, s, seen)
		at := r.Intn(len(s))
		x := odd[r.Intn(len(odd))]
		g.hold(t, s[:at]+x+s[at+1:], seen)
		g.hold(t, s[:at]+x+s[at:], seen)
		g.hold(t, s[:at]+s[at+1:], seen)
		g.hold(t, s[:at]+s[at:at+1]+s[at:], seen)
		g.hold(t, s[:at]+s, seen)
		g.hold(t, s+x, seen)
		g.hold(t, s[:at], seen)
	}
	wantSeen(t, seen, 1000, "server", "user", "room", "event", "key")
}

// Strings of the limit's size, of each kind that can have it, and of one byte less and more.
func TestAboutTheLimit(t *testing.T) {
	g, seen := chapters(), map[string]int{}
	for n := 250; n <= 260; n++ {
		for local := range n - 2 {
			a, b := strings.Repeat("x", local), strings.Repeat("a", n-2-local)
			g.hold(t, "@"+a+":"+b, seen)
			g.hold(t, "!"+a+":"+b, seen)
			g.hold(t, "ed25519:"+a+b, seen)
			g.hold(t, "$"+a+b, seen)
			g.hold(t, a+b+":12", seen)
			if len(b) > 3 {
				g.hold(t, "@"+a+":"+b[:len(b)-3]+":80", seen)
				g.hold(t, a+b[:len(b)-3]+":80", seen)
			}
		}
	}
	wantSeen(t, seen, 100, "server", "user", "room")
}
