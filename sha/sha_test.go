package sha_test

import (
	"bytes"
	"fmt"
	"strings"
	"testing"

	"introit/sha"
)

const (
	empty256 = "e3b0c44298fc1c149afbf4c8996fb92427ae41e4649b934ca495991b7852b855"
	empty512 = "cf83e1357eefb8bdf1542850d66d8007d620e4050b5715dc83f4a921d36ce9ce47d0d13c5d85f2b0ff8318d2877eec2f63b931bd47417a81a538327af927da3e"
	abc256   = "ba7816bf8f01cfea414140de5dae2223b00361a396177a9cb410ff61f20015ad"
	abc512   = "ddaf35a193617abacc417349ae20413112e6fa4e89a97ea20a9eeee64b55d39a2192992a274fc1a836ba3c23a3feebbd454d4423643ce80e2a9ac94fa54ca49f"
)

// hex256 and hex512 write the digests by the library's means, so that a fault of Hex can't hide one of the sums.
func hex256(b ...[]byte) string { return fmt.Sprintf("%x", sha.Sum256(b...)) }

func hex512(b ...[]byte) string { return fmt.Sprintf("%x", sha.Sum512(b...)) }

// wantSums checks both digests of the concatenation of b.
func wantSums(t *testing.T, what, want256, want512 string, b ...[]byte) {
	t.Helper()
	if got := hex256(b...); got != want256 {
		t.Errorf("%s: Sum256 %s, want %s", what, got, want256)
	}
	if got := hex512(b...); got != want512 {
		t.Errorf("%s: Sum512 %s, want %s", what, got, want512)
	}
}

// The digests that the standard's authors have published: of no byte, of less than a block, of a padding that takes another block, and of many blocks.
func TestPublishedDigests(t *testing.T) {
	for _, c := range []struct{ text, want256, want512 string }{
		{"", empty256, empty512},
		{"abc", abc256, abc512},
		{
			"abcdbcdecdefdefgefghfghighijhijkijkljklmklmnlmnomnopnopq", // one block of SHA-512, two of SHA-256
			"248d6a61d20638b8e5c026930c3e6039a33ce45964ff2167f6ecedd419db06c1",
			"204a8fc6dda82f0a0ced7beb8e08a41657c16ef468b228a8279be331a703c33596fd15c13b1b07f9aa1d3bea57789ca031ad85c7a71dd70354ec631238ca3445",
		},
		{
			"abcdefghbcdefghicdefghijdefghijkefghijklfghijklmghijklmnhijklmnoijklmnopjklmnopqklmnopqrlmnopqrsmnopqrstnopqrstu", // two blocks of each
			"cf5b16a778af8380036ce59e7b0492370b249b11e8f07a51afac45037afee9d1",
			"8e959b75dae313da8cf4f72814fc143f8f7779c6eb9f7fa17299aeadb6889018501d289e4900f7e4331b99dec4b5433ac7d329eeb6dd26545e96e55b874be909",
		},
		{
			strings.Repeat("a", 1000000),
			"cdc76e5c9914fb9281a1c7e284d73e67f1809a48a497200e046d39ccc7112cd0",
			"e718483d0ce769644e2e42c7bc15b4638e1f98b13b2044285632a803afa973ebde0ff244877ea60a4cb0432ce577c31beb009c5c2c49aa2e4eadb217ad8cc09b",
		},
		{
			"The quick brown fox jumps over the lazy dog",
			"d7a8fbb307d7809469ca9abcb0082e4f8d5651e46d3cdb762d02d0bf37c9e592",
			"07e547d9586f6a73f73fbac0435ed76951218fb7d0c8d788a309d785436bbb642e93a252a954f23912547d1e8a3b5ed6e1bfd7097821233fa0538f3db854fee6",
		},
	} {
		what := c.text
		if len(what) > 20 {
			what = what[:20] + ".."
		}
		wantSums(t, what, c.want256, c.want512, []byte(c.text))
	}
}

func TestNoBytes(t *testing.T) {
	wantSums(t, "no argument", empty256, empty512)
	wantSums(t, "no list", empty256, empty512, [][]byte{}...)
	wantSums(t, "nil", empty256, empty512, nil)
	wantSums(t, "one empty", empty256, empty512, []byte{})
	wantSums(t, "several empty", empty256, empty512, nil, []byte{}, nil, make([]byte, 0, 100))
}

func TestEmptyArgumentsAmongOthers(t *testing.T) {
	a, b, c := []byte("a"), []byte("b"), []byte("c")
	for _, parts := range [][][]byte{
		{[]byte("abc")},
		{a, b, c},
		{[]byte("ab"), c},
		{a, []byte("bc")},
		{nil, a, nil, b, nil, c, nil},
		{{}, a, {}, {}, b, c, {}},
		{nil, nil, []byte("abc")},
		{[]byte("abc"), nil, nil},
	} {
		wantSums(t, fmt.Sprintf("%q", parts), abc256, abc512, parts...)
	}
}

// One argument may stand there more than once.
func TestSameArgumentTwice(t *testing.T) {
	part := bytes.Repeat([]byte("a"), 100000)
	all := [][]byte{part, part, part, part, part, part, part, part, part, part}
	wantSums(t, "ten times the same", hex256(bytes.Repeat(part, 10)), hex512(bytes.Repeat(part, 10)), all...)
	if got := hex256(all...); got != "cdc76e5c9914fb9281a1c7e284d73e67f1809a48a497200e046d39ccc7112cd0" {
		t.Errorf("a million of a: %s", got)
	}
}

// The order of the arguments counts, and so does each byte's place.
func TestOrderCounts(t *testing.T) {
	seen := map[string]string{}
	for _, parts := range [][]string{{"ab", "c"}, {"c", "ab"}, {"ba", "c"}, {"abc", "\x00"}, {"\x00", "abc"}, {"abc\x80"}, {"ab"}, {"abc", "abc"}, {"ABC"}} {
		var b [][]byte
		for _, p := range parts {
			b = append(b, []byte(p))
		}
		for _, got := range []string{hex256(b...), hex512(b...)} {
			if before, ok := seen[got]; ok {
				t.Errorf("%q has the digest of %q", parts, before)
			}
			seen[got] = strings.Join(parts, "|")
		}
	}
}

// R4: no argument is changed, spare capacity included, and R5: what a caller does with them later changes no digest.
func TestMemory(t *testing.T) {
	for n := range 300 {
		room := bytes.Repeat([]byte{0xa5}, 600)
		parts := [][]byte{room[:n/2], room[n/2 : n], nil}
		all := append(make([][]byte, 0, 10), parts...)
		one, two := sha.Sum256(all...), sha.Sum512(all...)
		if !bytes.Equal(room, bytes.Repeat([]byte{0xa5}, 600)) {
			t.Fatalf("%d bytes: the argument was changed", n)
		}
		for i, p := range all[:cap(all)] {
			if i < 2 && (len(p) != len(parts[i]) || cap(p) != cap(parts[i])) || i >= 2 && p != nil {
				t.Fatalf("%d bytes: the list of the arguments was changed at %d", n, i)
			}
		}
		clear(room)
		if again := bytes.Repeat([]byte{0xa5}, n); one != sha.Sum256(again) || two != sha.Sum512(again) {
			t.Fatalf("%d bytes: other digests at the second call", n)
		}
	}
}

// R5: one call leaves nothing behind for the next.
func TestCallsInTurn(t *testing.T) {
	for n := range 200 {
		sha.Sum256(make([]byte, n))
		sha.Sum512(make([]byte, n))
		wantSums(t, "abc", abc256, abc512, []byte("abc"))
	}
}

func TestHex(t *testing.T) {
	for _, c := range []struct {
		b    []byte
		want string
	}{
		{nil, ""},
		{[]byte{}, ""},
		{[]byte{0}, "00"},
		{[]byte{255}, "ff"},
		{[]byte{0, 0}, "0000"},
		{[]byte{0, 1, 15, 16, 171, 255}, "00010f10abff"},
		{[]byte{0x01, 0x23, 0x45, 0x67, 0x89, 0xab, 0xcd, 0xef}, "0123456789abcdef"},
		{[]byte{0xfe, 0xdc, 0xba, 0x98, 0x76, 0x54, 0x32, 0x10}, "fedcba9876543210"},
		{[]byte("abc"), "616263"},
	} {
		if got := sha.Hex(c.b); got != c.want {
			t.Errorf("Hex(%v): %q, want %q", c.b, got, c.want)
		}
	}
}

// Each byte alone, and between others.
func TestHexOfEachByte(t *testing.T) {
	var all []byte
	want := ""
	for x := range 256 {
		digits := fmt.Sprintf("%02x", x)
		if got := sha.Hex([]byte{byte(x)}); got != digits {
			t.Errorf("Hex of %d: %q, want %q", x, got, digits)
		}
		all = append(all, byte(x))
		want += digits
		if got := sha.Hex(all); got != want {
			t.Fatalf("Hex of the first %d bytes: %q, want %q", len(all), got, want)
		}
	}
}

func TestHexMemory(t *testing.T) {
	room := bytes.Repeat([]byte{0xa5}, 32)
	s := sha.Hex(room[:8])
	if !bytes.Equal(room, bytes.Repeat([]byte{0xa5}, 32)) {
		t.Errorf("Hex changed its argument: %v", room)
	}
	clear(room)
	if s != "a5a5a5a5a5a5a5a5" {
		t.Errorf("the text changed with the bytes: %q", s)
	}
}

func Example() {
	short, long := sha.Sum256([]byte("ab"), []byte("c")), sha.Sum512()
	fmt.Println(sha.Hex(short[:4]), sha.Hex(long[:4]))
	// Output:
	// ba7816bf cf83e135
}
