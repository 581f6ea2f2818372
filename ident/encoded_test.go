package ident_test

import (
	"encoding/base64"
	"fmt"
	"slices"
	"strings"
	"testing"

	"introit/b64"
	"introit/ident"
)

// Identifiers of events and of keys.

// someBytes returns n bytes, others for each seed.
func someBytes(n, seed int) []byte {
	b := make([]byte, n)
	for i := range b {
		b[i] = byte(i*seed + seed*seed>>3 + i>>seed%7)
	}
	return b
}

func TestEvents(t *testing.T) {
	for seed := range 300 {
		for n := range 70 {
			b := someBytes(n, seed)
			wantEvent(t, "$"+b64.PutURL(b), n == 32)
			if n == 32 {
				wantEvent(t, "$"+base64.RawURLEncoding.EncodeToString(b), true)
			}
		}
	}
	wantEvent(t, "$"+strings.Repeat("A", 43), true)
	wantEvent(t, "$"+strings.Repeat("_", 42)+"8", true)
	wantEvent(t, "$"+strings.Repeat("-", 42)+"w", true)
}

func TestBadEvents(t *testing.T) {
	z := strings.Repeat("A", 43)
	f := slices.Repeat([]byte{255}, 32)
	for _, s := range []string{
		"", "$", "$$", z, "$" + z + "A", "$" + z[1:], "$" + z + "=", "$" + z[1:] + "=", "$" + z + "==", "$" + z + "A=", "$=" + z,
		"$" + b64.Put(f), "$" + b64.Put(f) + "=", "$" + base64.URLEncoding.EncodeToString(f), "$" + base64.StdEncoding.EncodeToString(f),
		"$" + z[:42] + "B", "$" + z[:42] + "C", "$" + z[:42] + "D", "$" + z[:42] + "_", "$" + z[:42] + "-", "$" + z[:42] + "=",
		"$" + z + "\n", "$" + z + "\r\n", "$\n" + z, "$" + z[:20] + "\n" + z[20:], "$" + z[:20] + "\n" + z[21:], "$" + z[:20] + "\r" + z[20:], "$" + z + " ", " $" + z, "$ " + z,
		"$" + z + ":a.org", "$" + z[:41] + ":a", "#" + z, "@" + z, "!" + z, "\u0024\ufeff" + z, "$" + z[:41] + "\u00e4", "$" + z[:42] + "\xff", "$" + z[:42] + "\x00",
		"$$" + z, "$$" + z[1:], "A" + z, z + "$", "$143273582443PhrSn:example.org",
	} {
		wantEvent(t, s, false)
	}
	wantEvent(t, "$"+b64.PutURL(f), true)
}

// Every byte at every place. In the last, two bits are left over.
func TestEventEachByte(t *testing.T) {
	for _, form := range []string{strings.Repeat("A", 43), b64.PutURL(slices.Repeat([]byte{255}, 32)), b64.PutURL(someBytes(32, 5))} {
		for i := range 44 {
			of := ofEvent
			switch i {
			case 0:
				of = "$"
			case 43:
				of = lastOf
			}
			for _, c := range a256() {
				s := "$" + form
				wantEvent(t, s[:i]+c+s[i+1:], strings.Contains(of, c))
			}
		}
	}
}

func TestEventSizes(t *testing.T) {
	for _, n := range []int{42, 43, 44, 45, 253, 254, 255, 256, 257, 65536, 1 << 20} { // bytes in all
		wantEvent(t, "$"+strings.Repeat("A", n-1), n == 44)
	}
}

func TestKeyIDs(t *testing.T) {
	for _, s := range []string{"a", "z", "A", "Z", "0", "9", "_", "1", "auto", "a_b", "__", "_9Z", "a1", "ed25519", "abc123_XYZ", strings.Repeat("_", 32), ofKey[:32], ofKey[32:]} {
		wantKeyID(t, "ed25519:"+s, true)
	}
	for _, s := range []string{"-", "a-b", "-a", "a-", ":", "::", "a:b", ":a", "a:", "a:1", "ed25519:a", ".", "a.b", "a b", " a", "a ", "a\n", "\n", "\x00", "a/b", "a+b", "a=", "@", "\u00e4", "a\u00e4", "\xff", "a\x80", "a\x7f", "\u212a", "\u0661"} {
		wantKeyID(t, "ed25519:"+s, false)
	}
	for _, s := range []string{"", "a", ":", ":a", "ed25519", "ed25519a", "ed25519;a", "ed25519 a", "ed25519.a", "ed25519_a", "d25519:a", "ed2551:a", "ed255190:a", "ed25519::a", "ED25519:a", "Ed25519:a", "eD25519:a", " ed25519:a", "ed25519 :a", "rsa:a", "curve25519:a", "ed25518:a", "ed448:a", "\ufeffed25519:a", "$ed25519:a", "a:ed25519", "edz5519:a"} {
		wantKeyID(t, s, false)
	}
}

// Nothing behind the colon, up to 32 characters, and more.
func TestKeyIDSizes(t *testing.T) {
	for n := range 300 {
		for _, c := range []string{"k", "_", "0", "Z"} {
			wantKeyID(t, "ed25519:"+strings.Repeat(c, n), n >= 1 && n <= 32)
		}
	}
	wantKeyID(t, "ed25519:"+strings.Repeat("k", 1<<20), false)
}

// Every byte at the first, a middle and the last place behind the colon, and at each place up to it.
func TestKeyIDEachByte(t *testing.T) {
	const word, long = "ed25519:", "abcdefghijklmnopqrstuvwxyz_12345"
	for _, c := range a256() {
		want := strings.Contains(ofKey, c)
		for _, form := range []string{"%s", "%sbc", "a%sc", "ab%s", "%s" + long[1:], long[:16] + "%s" + long[17:], long[:31] + "%s"} {
			wantKeyID(t, word+fmt.Sprintf(form, c), want)
		}
		wantKeyID(t, word+long+c, false)
		for i := range word {
			wantKeyID(t, word[:i]+c+word[i+1:]+"a", c == word[i:i+1])
		}
	}
}

// Each of the first four kinds of identifier is of no other kind. But a key identifier may be a server name too, if the rest is digits.
func TestKinds(t *testing.T) {
	for i, s := range []string{"a.org:80", "@ann:a.org:80", "!ann:a.org:80", "$" + strings.Repeat("A", 43), "ed25519:a"} {
		_, _, user := ident.User(s)
		_, _, room := ident.Room(s)
		got := []bool{ident.Server(s), user, room, ident.Event(s), ident.KeyID(s)}
		for j, is := range got {
			if is != (i == j) {
				t.Errorf("%q is of kinds %v", s, got)
			}
		}
	}
	wantServer(t, "ed25519:1", true)
	wantKeyID(t, "ed25519:1", true)
}
