package utf_test

import (
	"regexp"
	"strings"
	"testing"
	"unicode/utf8"

	"introit/api"
	"introit/utf"
)

// literal says a second time, by other means, what P1.3 allows at the beginning of a string.
var literal = regexp.MustCompile(`(?s)\A"(?:[^"\\\x00-\x1f]|\\["\\/btnfr]|\\u(?:[0-9a-cA-Ce-fE-F][0-9a-fA-F]{3}|[dD][0-7][0-9a-fA-F]{2}|[dD][89abAB][0-9a-fA-F]{2}\\u[dD][c-fC-F][0-9a-fA-F]{2}))*"`)

// allowed returns the length of the literal at the beginning of s, or 0.
func allowed(s string) int {
	end := literal.FindStringIndex(s)
	if end == nil || !utf8.ValidString(s[:end[1]]) {
		return 0
	}
	return end[1]
}

func TestUnquoteOfPiecesInEveryOrder(t *testing.T) {
	pieces := []string{`"`, `\`, `u`, `\u`, `\n`, `00`, `0041`, `d83d`, `DE00`, `\uD83d`, `\ude00`, "a", "\n", "\u00e4", "\xc3", "\xa4"}
	var walk func(s string, left int)
	walk = func(s string, left int) {
		x, n, e := utf.Unquote(s)
		want := allowed(s)
		if n != want || (e == api.OK) != (want > 0) || e != api.OK && (e != api.ErrForm || x != "") {
			t.Fatalf("Unquote(%q) = %q, %d, %v, want length %d", s, x, n, e, want)
		}
		if e == api.OK {
			backAgain(t, s, x)
		}
		if left == 0 {
			return
		}
		for _, p := range pieces {
			walk(s+p, left-1)
		}
	}
	walk("", 2)
	walk(`"`, 4)
}

// backAgain checks that what a literal denotes is well-formed, and that Quote writes a literal that denotes it too.
func backAgain(t *testing.T, s, x string) {
	q, e := utf.Quote(x)
	if e != api.OK {
		t.Fatalf("Unquote(%q) = %q, which is ill-formed", s, x)
	}
	if y, n, e := utf.Unquote(q); y != x || n != len(q) || e != api.OK {
		t.Fatalf("Unquote(%q) = %q, %d, %v, want %q", q, y, n, e, x)
	}
}

func TestLongStrings(t *testing.T) {
	s := strings.Repeat("a\u00e4\"\x01\U0001f600", 200000)
	if got := utf.Runes(s); got != 1000000 {
		t.Errorf("Runes = %d", got)
	}
	backAgain(t, "a long one", s)
	if n := utf.Runes(s + "\xff"); n != -1 {
		t.Errorf("Runes with a defect at the end = %d", n)
	}
	if x, n, e := utf.Unquote(`"` + strings.Repeat("a", 1000000)); x != "" || n != 0 || e != api.ErrForm {
		t.Errorf("a long literal without end: %d bytes, %d, %v", len(x), n, e)
	}
}
