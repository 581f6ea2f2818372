package ident_test

import (
	"fmt"
	"strings"
	"testing"

	"introit/api"
	"introit/b64"
	"introit/ident"
)

// The characters of each part, written out once more.
const (
	digits   = "0123456789"
	letters  = "abcdefghijklmnopqrstuvwxyzABCDEFGHIJKLMNOPQRSTUVWXYZ"
	ofServer = letters + digits + ".-"
	ofKey    = letters + digits + "_"
	ofEvent  = letters + digits + "-_"
	lastOf   = "AEIMQUYcgkosw048" // stand for six bits of which the last two are 0
)

// ofLocal returns the bytes from 33 to 126 other than the colon.
func ofLocal() string {
	s := ""
	for c := byte(33); c <= 126; c++ {
		if c != 58 {
			s += string(rune(c))
		}
	}
	return s
}

// a256 returns each of the 256 bytes as a string.
func a256() []string {
	var l []string
	for c := range 256 {
		l = append(l, string([]byte{byte(c)}))
	}
	return l
}

func wantServer(t *testing.T, s string, want bool) {
	t.Helper()
	if got := ident.Server(s); got != want {
		t.Errorf("server %q: %v, want %v", s, got, want)
	}
}

// wantName checks User, if the sign is `@`, or Room, and ServerOf. The other one of the two refuses the identifier in any case.
func wantName(t *testing.T, sign, rest, local, server string, want bool) {
	t.Helper()
	s := sign + rest
	one, other := ident.User, ident.Room
	if sign == "!" {
		one, other = other, one
	}
	if a, b, ok := one(s); a != local || b != server || ok != want {
		t.Errorf("%q: %q, %q, %v, want %q, %q, %v", s, a, b, ok, local, server, want)
	}
	if a, b, ok := other(s); a != "" || b != "" || ok {
		t.Errorf("%q with the other sign: %q, %q, %v", s, a, b, ok)
	}
	if got := ident.ServerOf(s); got != server {
		t.Errorf("server of %q: %q, want %q", s, got, server)
	}
}

// wantBoth checks a user identifier and a room identifier with the two parts.
func wantBoth(t *testing.T, local, server string) {
	t.Helper()
	for _, sign := range []string{"@", "!"} {
		wantName(t, sign, local+":"+server, local, server, true)
	}
}

// wantNeither checks that what follows the sign makes no identifier of a user and none of a room.
func wantNeither(t *testing.T, rest string) {
	t.Helper()
	for _, sign := range []string{"@", "!"} {
		wantName(t, sign, rest, "", "", false)
	}
}

// wantParts checks wantBoth or wantNeither.
func wantParts(t *testing.T, local, server string, want bool) {
	t.Helper()
	if want {
		wantBoth(t, local, server)
	} else {
		wantNeither(t, local+":"+server)
	}
}

func wantEvent(t *testing.T, s string, want bool) {
	t.Helper()
	if got := ident.Event(s); got != want {
		t.Errorf("event %q: %v, want %v", s, got, want)
	}
}

func wantKeyID(t *testing.T, s string, want bool) {
	t.Helper()
	if got := ident.KeyID(s); got != want {
		t.Errorf("key %q: %v, want %v", s, got, want)
	}
}

func goodServers() []string {
	return []string{
		"a", "z", "A", "Z", "0", "9", ".", "-", "..", "...", "--", "-----", ".-", "-a-", ".a.",
		"a.org", "A.ORG", "1.2.3.4", "1.2.3.4:8448", "localhost", "x--y", "12345", "123456", "a..b",
		"a:0", "a:1", "a:80", "a:008", "a:8448", "a:12345", "a:00000", "a:65536", "a:99999",
		".:0", "-:9", "...:12345", "0:0", "80:80",
	}
}

func badServers() []string {
	return []string{
		"", " ", ":", "::", ":0", ":80", ":a", "a:", "a.org:", ".:", "-:",
		"a:123456", "a:000000", "a:1234567890", "a:1:2", "a:1:", "a::", "a::1", ":a:1", "::1", "a:b:1", "a:b",
		"a:x", "a:8o", "a:o8", "a:8o8", "a:+1", "a:-1", "a:1-", "a:1+", "a:1.", "a:.1", "a:1.0", "a: 1", "a:1 ", "a:1_0", "a:0x1", "a:1e1", "a:\x00", "a:1\n",
		"a_b", "a b", " a", "a ", "a/", "a\n", "\na", "a\x00", "\x00", "@a", "!a", "$a", "#a", "@a:b", "!a:b", "a@b", "a,b", "a;1", "a+b", "a=b",
		"[::1]", "[::1]:80", "[1]", "::1", "[", "]", "{a}", "`", "^", "a%b", "*.org", "a\\b", "\"a\"",
		"\u00e4", "a\u00e4", "\u00e4.org", "a\x80", "\xff", "a\x7f", "a\uff0eb", "a\u2024b", "a:\u0661", "a:\uff11", "\u212a", "\u0131",
	}
}

func TestServers(t *testing.T) {
	for _, s := range goodServers() {
		wantServer(t, s, true)
	}
	for _, s := range badServers() {
		wantServer(t, s, false)
	}
}

// Every byte at the first, a middle and the last place of the name and of the port.
func TestServerEachByte(t *testing.T) {
	for _, c := range a256() {
		inName := strings.Contains(ofServer, c)
		for _, form := range []string{"%s", "%sbc", "a%sc", "ab%s", "%s:80", "%sbc:80", "a%sc:80", "ab%s:80", ".%s.", "-%s-", "1%s:1", "%s1:1"} {
			wantServer(t, fmt.Sprintf(form, c), inName)
		}
		isDigit := strings.Contains(digits, c)
		for _, form := range []string{"a:%s", "a:%s2", "a:1%s", "a:%s23", "a:1%s3", "a:12%s", "a:%s2345", "a:12%s45", "a:1234%s"} {
			wantServer(t, fmt.Sprintf(form, c), isDigit)
		}
		wantServer(t, "a"+c+"b", inName)
		wantServer(t, "a"+c+"80", inName || c == ":")
		wantServer(t, "1"+c+"123456", inName)
		wantServer(t, "a:12345"+c, false)
	}
}

// The sign of a port, and so many digits behind it.
func TestPorts(t *testing.T) {
	for n := range 300 {
		for _, digit := range []string{"0", "1", "9"} {
			wantServer(t, "a.org:"+strings.Repeat(digit, n), n >= 1 && n <= 5)
		}
	}
}

func TestServerSizes(t *testing.T) {
	for _, n := range []int{1, 2, 100, 249, 250, 251, 252, 253, 254, 255, 256, 257, 300, 511, 512, 65536, 1 << 20} {
		for _, c := range []string{"a", ".", "-", "0"} {
			wantServer(t, strings.Repeat(c, n), n <= api.MaxName)
			for port := 1; port <= 5; port++ {
				wantServer(t, strings.Repeat(c, n)+":"+strings.Repeat("1", port), n+1+port <= api.MaxName)
			}
			wantServer(t, strings.Repeat(c, n)+":", false)
			wantServer(t, strings.Repeat(c, n)+"\x80", false)
		}
	}
}

func TestNames(t *testing.T) {
	wantName(t, "@", "ann:a.org:80", "ann", "a.org:80", true) // the chapter's example
	for _, local := range []string{"a", "!", "@", "$", "~", "9", ";", "@@", "!!", "@ann", "!ann", "ann@a.org", "<>", "\"", "\\", "a/b=c+d.e_f-g", "%20", ofLocal()} {
		for _, server := range goodServers() {
			wantBoth(t, local, server)
		}
		for _, server := range badServers() {
			wantNeither(t, local+":"+server)
		}
	}
}

func TestNamesWithoutPart(t *testing.T) {
	for _, rest := range []string{"", ":", "::", ":::", "a", "ann", "a:", "ann:", "a::", ":a", ":a.org", ":a.org:80", "::80", ":a:1", "a.org", "a.org:", ":1", "a;b", "a.b"} {
		wantNeither(t, rest)
	}
}

// The first colon ends the local part, so that what stands behind the second can be a port alone.
func TestMoreColons(t *testing.T) {
	wantBoth(t, "a", "b:1")
	wantBoth(t, "1", "2:3")
	wantBoth(t, "a", "1:12345")
	for _, rest := range []string{"a:b:c", "a:b:1:2", "a:b:c:1", "a:b:1:", "a:b:", "a::1", "a::b:1", "1:2:3:4", "a:1:123456", "a:b:1a"} {
		wantNeither(t, rest)
	}
}

// Every byte at the first, a middle and the last place of the local part.
func TestLocalPartEachByte(t *testing.T) {
	all := ofLocal()
	if len(all) != 93 {
		t.Fatalf("%d bytes in the test's list", len(all))
	}
	for i, c := range a256() {
		want := i > 32 && i < 127 && i != ':'
		if want != strings.Contains(all, c) {
			t.Errorf("the test's list is wrong at %d", i)
		}
		for _, form := range []string{"%s", "%sbc", "a%sc", "ab%s", "%sb", "a%s", "@%s!", "aaaaaaaa%s"} {
			wantParts(t, fmt.Sprintf(form, c), "a.org", want)
			wantParts(t, fmt.Sprintf(form, c), "a.org:80", want)
		}
	}
}

func TestLocalPartEdges(t *testing.T) {
	for _, c := range []struct {
		local string
		want  bool
	}{
		{" ", false}, {"!", true}, {"~", true}, {"\x7f", false},
		{"a b", false}, {"a\x7fb", false}, {"\x00", false}, {"\x1f", false}, {"\t", false}, {"a\n", false}, {"\x80", false}, {"\xff", false},
		{"\u00e4", false}, {"a\u00e4", false}, {"\u00e4a", false}, {"\u0141", false}, {"\u2021", false}, {"\U0001f600", false}, {"a\xc3", false}, // the second and third end with a good byte's bits
	} {
		wantParts(t, c.local, "a.org", c.want)
	}
}

// Every byte at the first, a middle and the last place of the server name of a user or a room.
func TestServerOfNameEachByte(t *testing.T) {
	for _, c := range a256() {
		inName := strings.Contains(ofServer, c)
		for _, form := range []string{"%s", "%sbc", "a%sc", "ab%s", "%s:80", "%sbc:80", "a%sc:80", "ab%s:80"} {
			wantParts(t, "ann", fmt.Sprintf(form, c), inName)
		}
		isDigit := strings.Contains(digits, c)
		for _, form := range []string{"a:%s", "a:%s23", "a:1%s3", "a:12%s", "a:%s2345", "a:12%s45", "a:1234%s"} {
			wantParts(t, "ann", fmt.Sprintf(form, c), isDigit)
		}
		wantParts(t, "ann", "a:12345"+c, false)
	}
}

// Every byte in place of the sign, and of the colon between the parts.
func TestSigns(t *testing.T) {
	for _, c := range a256() {
		s := c + "ann:a.org"
		_, _, user := ident.User(s)
		_, _, room := ident.Room(s)
		server := ident.ServerOf(s)
		if user != (c == "@") || room != (c == "!") || (server == "a.org") != (user || room) || server != "" && server != "a.org" {
			t.Errorf("%q: user %v, room %v, server %q", s, user, room, server)
		}
		if c == ":" {
			wantBoth(t, "ann", "a.org")
			continue
		}
		wantNeither(t, "ann"+c+"a.org")
		wantParts(t, "ann"+c+"a.org", "80", strings.Contains(ofLocal(), c))
	}
	for _, s := range []string{"ann:a.org", " @ann:a.org", "\ufeff@ann:a.org", "#ann:a.org", "$ann:a.org", "\x00", "a.org", "a.org:80"} {
		if a, b, ok := ident.User(s); a != "" || b != "" || ok {
			t.Errorf("user %q: %q, %q, %v", s, a, b, ok)
		}
		if a, b, ok := ident.Room(s); a != "" || b != "" || ok {
			t.Errorf("room %q: %q, %q, %v", s, a, b, ok)
		}
	}
}

func TestNameSizes(t *testing.T) {
	for _, n := range []int{3, 4, 5, 100, 253, 254, 255, 256, 257, 300, 511, 512, 65536, 1 << 20} { // bytes in all
		fit := n <= api.MaxName
		wantParts(t, strings.Repeat("x", n-3), "a", n > 3 && fit)
		wantParts(t, "x", strings.Repeat("a", n-3), n > 3 && fit)
		if n > 5 {
			wantParts(t, strings.Repeat("x", n-5), "a:1", fit)
			wantParts(t, "x", strings.Repeat("a", n-5)+":1", fit)
			wantParts(t, strings.Repeat("x", n/2), strings.Repeat(".", n-n/2-2), fit)
		}
		wantNeither(t, strings.Repeat("x", n-1))
		wantNeither(t, strings.Repeat("x", n-2)+":")
		wantNeither(t, ":"+strings.Repeat("a", n-2))
	}
}

func TestServerOf(t *testing.T) {
	z := "$" + b64.PutURL(make([]byte, 32))
	for _, c := range []struct{ s, want string }{
		{"@ann:a.org", "a.org"}, {"!ann:a.org", "a.org"}, {"@ann:a.org:80", "a.org:80"}, {"!ann:a.org:80", "a.org:80"},
		{"@@:a", "a"}, {"!!:a", "a"}, {"@!:a", "a"}, {"!@:a", "a"}, {"@a:-", "-"}, {"!a:.", "."},
		{"", ""}, {"a", ""}, {"a.org", ""}, {"a.org:80", ""}, {":80", ""}, {"ann:a.org", ""}, {":a.org", ""},
		{z, ""}, {z + ":a.org", ""}, {"$x:a.org", ""}, {"#x:a.org", ""}, {"+x:a.org", ""}, {"ed25519:a", ""}, {"@", ""}, {"!", ""},
		{"@:a.org", ""}, {"!:a.org", ""}, {"@ann", ""}, {"!ann", ""}, {"@ann:", ""}, {"!ann:", ""}, {"@ann:a_b", ""}, {"!ann:a_b", ""},
		{"@an n:a.org", ""}, {"!an n:a.org", ""}, {"@ann:a.org:123456", ""}, {"!ann:a.org:123456", ""}, {"@ann:a.org:80:81", ""}, {"!ann:b:a.org", ""},
	} {
		if got := ident.ServerOf(c.s); got != c.want {
			t.Errorf("server of %q: %q, want %q", c.s, got, c.want)
		}
	}
}
