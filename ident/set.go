package ident

// A set of characters is written as its ranges: the first and the last character of each, one pair after the other.
type set string

const (
	colon     set = "::"
	digits    set = "09"
	letters   set = "azAZ"
	ofLocal   set = "!9;~" // the colon is what lies between 9 and ;
	ofServer      = letters + digits + "..--"
	ofKeyName     = letters + digits + "__"
)

func (s set) has(c byte) bool {
	for i := 0; i < len(s); i += 2 {
		if s[i] <= c && c <= s[i+1] {
			return true
		}
	}
	return false
}

func (s set) lacks(c byte) bool { return !s.has(c) }

// A test is set.has or set.lacks.
type test func(of set, c byte) bool

// span returns the number of bytes from the beginning of s, up to the first that fails the test.
func span(s string, passes test, of set) int {
	for i := range len(s) {
		if !passes(of, s[i]) {
			return i
		}
	}
	return len(s)
}

// made reports whether s consists of characters of the set, as many as least to most.
func made(s string, of set, least, most int) bool {
	return least <= len(s) && len(s) <= most && span(s, set.has, of) == len(s)
}

// parts returns what stands in front of the first colon and what behind it; without a colon, all of s, an empty string, and false.
func parts(s string) (string, string, bool) {
	at := span(s, set.lacks, colon)
	if at == len(s) {
		return s, "", false
	}
	return s[:at], s[at+1:], true
}
