package sign_test

import (
	"bytes"
	"crypto/ed25519"
	"encoding/hex"
	"fmt"
	"slices"
	"testing"

	"introit/api"
	"introit/sign"
)

func read(text string) []byte {
	b, err := hex.DecodeString(text)
	if err != nil {
		panic(err)
	}
	return b
}

// known are the keys and signatures of RFC 8032, section 7.1.
func known() []struct{ name, seed, pub, msg, sig string } {
	return []struct{ name, seed, pub, msg, sig string }{
		{
			"test 1",
			"9d61b19deffd5a60ba844af492ec2cc44449c5697b326919703bac031cae7f60",
			"d75a980182b10ab7d54bfed3c964073a0ee172f3daa62325af021a68f707511a",
			"",
			"e5564300c360ac729086e2cc806e828a84877f1eb8e5d974d873e065224901555fb8821590a33bacc61e39701cf9b46bd25bf5f0595bbe24655141438e7a100b",
		},
		{
			"test 2",
			"4ccd089b28ff96da9db6c346ec114e0f5b8a319f35aba624da8cf6ed4fb8a6fb",
			"3d4017c3e843895a92b70aa74d1b7ebc9c982ccf2ec4968cc0cd55f12af4660c",
			"72",
			"92a009a9f0d4cab8720e820b5f642540a2b27b5416503f8fb3762223ebdb69da085ac1e43e15996e458f3613d0f11d8c387b2eaeb4302aeeb00d291612bb0c00",
		},
		{
			"test 3",
			"c5aa8df43f9f837bedb7442f31dcb7b166d38535076f094b85ce3a2e0b4458f7",
			"fc51cd8e6218a1a38da47ed00230f0580816ed13ba3303ac5deb911548908025",
			"af82",
			"6291d657deec24024827e69c3abe01a30ce548a284743a445e3680d7db5ac3ac18ff9b538d16f290ae67f760984dc6594a7c15e9716ed28dc027beceea1ec40a",
		},
		{
			"test 1024",
			"f5e5767cf153319517630f226876b86c8160cc583bc013744c6bf255f5cc0ee5",
			"278117fc144c72340f67d0f2316e8386ceffbf2b2428c9c51fef7c597f1d426e",
			of1023,
			"0aab4c900501b3e24d7cdf4663326a3a87df5e4843b2cbdb67cbf6e460fec350aa5371b1508f9f4528ecea23c436d94b5e8fcd4f681e30a6ac00a9704a188a03",
		},
		{
			"test SHA(abc)",
			"833fe62409237b9d62ec77587520911e9a759cec1d19755b7da901b96dca3d42",
			"ec172b93ad5e563bf4932c70e1245034c35467ef2efd4d64ebf819683467e2bf",
			"ddaf35a193617abacc417349ae20413112e6fa4e89a97ea20a9eeee64b55d39a2192992a274fc1a836ba3c23a3feebbd454d4423643ce80e2a9ac94fa54ca49f",
			"dc2a4459e7369633a52b1bf277839a00201009a3efbf3ecb69bea2186c26b58909351fc9ac90b3ecfdfbc7c66431e0303dca179c138ac17ad9bef1177331a704",
		},
	}
}

// of1023 is the message of test 1024, which has 1023 bytes.
const of1023 = "" +
	"08b8b2b733424243760fe426a4b54908632110a66c2f6591eabd3345e3e4eb98fa6e264bf09efe12ee50f8f54e9f77b1e355f6c50544e23fb1433ddf73be84d8" +
	"79de7c0046dc4996d9e773f4bc9efe5738829adb26c81b37c93a1b270b20329d658675fc6ea534e0810a4432826bf58c941efb65d57a338bbd2e26640f89ffbc" +
	"1a858efcb8550ee3a5e1998bd177e93a7363c344fe6b199ee5d02e82d522c4feba15452f80288a821a579116ec6dad2b3b310da903401aa62100ab5d1a36553e" +
	"06203b33890cc9b832f79ef80560ccb9a39ce767967ed628c6ad573cb116dbefefd75499da96bd68a8a97b928a8bbc103b6621fcde2beca1231d206be6cd9ec7" +
	"aff6f6c94fcd7204ed3455c68c83f4a41da4af2b74ef5c53f1d8ac70bdcb7ed185ce81bd84359d44254d95629e9855a94a7c1958d1f8ada5d0532ed8a5aa3fb2" +
	"d17ba70eb6248e594e1a2297acbbb39d502f1a8c6eb6f1ce22b3de1a1f40cc24554119a831a9aad6079cad88425de6bde1a9187ebb6092cf67bf2b13fd65f270" +
	"88d78b7e883c8759d2c4f5c65adb7553878ad575f9fad878e80a0c9ba63bcbcc2732e69485bbc9c90bfbd62481d9089beccf80cfe2df16a2cf65bd92dd597b07" +
	"07e0917af48bbb75fed413d238f5555a7a569d80c3414a8d0859dc65a46128bab27af87a71314f318c782b23ebfe808b82b0ce26401d2e22f04d83d1255dc51a" +
	"ddd3b75a2b1ae0784504df543af8969be3ea7082ff7fc9888c144da2af58429ec96031dbcad3dad9af0dcbaaaf268cb8fcffead94f3c7ca495e056a9b47acdb7" +
	"51fb73e666c6c655ade8297297d07ad1ba5e43f1bca32301651339e22904cc8c42f58c30c04aafdb038dda0847dd988dcda6f3bfd15c4b4c4525004aa06eeff8" +
	"ca61783aacec57fb3d1f92b0fe2fd1a85f6724517b65e614ad6808d6f6ee34dff7310fdc82aebfd904b01e1dc54b2927094b2db68d6f903b68401adebf5a7e08" +
	"d78ff4ef5d63653a65040cf9bfd4aca7984a74d37145986780fc0b16ac451649de6188a7dbdf191f64b5fc5e2ab47b57f7f7276cd419c17a3ca8e1b939ae49e4" +
	"88acba6b965610b5480109c8b17b80e1b7b750dfc7598d5d5011fd2dcc5600a32ef5b52a1ecc820e308aa342721aac0943bf6686b64b2579376504ccc493d97e" +
	"6aed3fb0f9cd71a43dd497f01f17c0e2cb3797aa2a2f256656168e6c496afc5fb93246f6b1116398a346f1a641f3b041e989f7914f90cc2c7fff357876e506b5" +
	"0d334ba77c225bc307ba537152f3f1610e4eafe595f6d9d90d11faa933a15ef1369546868a7f3a45a96768d40fd9d03412c091c6315cf4fde7cb68606937380d" +
	"b2eaaa707b4c4185c32eddcdd306705e4dc1ffc872eeee475a64dfac86aba41c0618983f8741c5ef68d3a101e8a3b8cac60c905c15fc910840b94c00a0b9d0"

// someSeed returns 32 bytes, others for each n.
func someSeed(n int) []byte {
	b := bytes.Repeat([]byte{byte(n)}, 32)
	b[31] = byte(n >> 8)
	return b
}

// someMessage returns n bytes of several values.
func someMessage(n int) []byte {
	b := make([]byte, n)
	for i := range b {
		b[i] = byte(i*7 + i>>8 + n)
	}
	return b
}

func publicOf(t *testing.T, seed []byte) []byte {
	t.Helper()
	p, e := sign.Public(seed)
	if len(p) != 32 || e != api.OK {
		t.Fatalf("Public of %x: %x %v", seed, p, e)
	}
	return p
}

func signed(t *testing.T, seed, msg []byte) []byte {
	t.Helper()
	s, e := sign.Sign(seed, msg)
	if len(s) != 64 || e != api.OK {
		t.Fatalf("Sign with %x: %x %v", seed, s, e)
	}
	return s
}

func wantVerify(t *testing.T, what string, pub, msg, sig []byte, want bool) {
	t.Helper()
	if got := sign.Verify(pub, msg, sig); got != want {
		t.Errorf("%s: Verify of %x by %x: %v", what, sig, pub, got)
	}
}

func TestKnown(t *testing.T) {
	for _, c := range known() {
		seed, msg := read(c.seed), read(c.msg)
		pub, sig := publicOf(t, seed), signed(t, seed, msg)
		if hex.EncodeToString(pub) != c.pub || hex.EncodeToString(sig) != c.sig {
			t.Errorf("%s: %x %x", c.name, pub, sig)
		}
		wantVerify(t, c.name, read(c.pub), msg, read(c.sig), true)
	}
}

// Each with the others' messages and signatures.
func TestKnownCrosswise(t *testing.T) {
	l := known()
	for i, key := range l {
		for j, msg := range l {
			for k, sig := range l {
				what := key.name + ", the message of " + msg.name + ", the signature of " + sig.name
				wantVerify(t, what, read(key.pub), read(msg.msg), read(sig.sig), i == j && j == k)
			}
		}
	}
}

func TestSeeds(t *testing.T) {
	long := someMessage(1000)
	seeds := [][]byte{nil, {}, make([]byte, 31), make([]byte, 33), make([]byte, 64)}
	for n := range 100 {
		if n != 32 {
			seeds = append(seeds, long[:n])
		}
	}
	for _, seed := range append(seeds, long[:31:31], long[:31:32], long) {
		for _, msg := range [][]byte{nil, {}, []byte("x"), long} {
			p, e := sign.Public(seed)
			s, f := sign.Sign(seed, msg)
			if len(p) != 0 || len(s) != 0 || e != api.ErrArg || f != api.ErrArg {
				t.Errorf("a seed of %d bytes: %x %v, %x %v", len(seed), p, e, s, f)
			}
		}
	}
	wantSame(t, long[:32], []byte("x")) // with spare capacity
	wantSame(t, make([]byte, 32), nil)
	wantSame(t, bytes.Repeat([]byte{255}, 32), nil)
}

// wantSame checks what a seed makes against the library, and that Verify takes it.
func wantSame(t *testing.T, seed, msg []byte) {
	t.Helper()
	k := ed25519.NewKeyFromSeed(seed)
	pub, sig := publicOf(t, seed), signed(t, seed, msg)
	if want := k[32:]; !bytes.Equal(pub, want) {
		t.Errorf("Public of %x: %x, want %x", seed, pub, want)
	}
	if want := ed25519.Sign(k, msg); !bytes.Equal(sig, want) {
		t.Errorf("Sign of %d bytes with %x: %x, want %x", len(msg), seed, sig, want)
	}
	wantVerify(t, "what was signed", pub, msg, sig, true)
}

// The digests are of 32 or 64 bytes and the message, so the blocks of 128 bytes end, with and without the padding, at these lengths among others.
func TestMessages(t *testing.T) {
	for _, n := range []int{0, 1, 2, 47, 48, 63, 64, 65, 79, 80, 95, 96, 97, 111, 112, 127, 128, 129, 175, 176, 191, 192, 207, 208, 223, 224, 255, 256, 1023, 1024, 1025, 65536} {
		wantSame(t, someSeed(n), someMessage(n))
		wantSame(t, someSeed(n), make([]byte, n))
	}
	for n := range 300 {
		wantSame(t, someSeed(1), someMessage(n))
	}
}

func TestNoMessage(t *testing.T) {
	seed := someSeed(2)
	pub, sig := publicOf(t, seed), signed(t, seed, nil)
	if again := signed(t, seed, []byte{}); !bytes.Equal(sig, again) {
		t.Errorf("nil and empty: %x and %x", sig, again)
	}
	wantVerify(t, "nil", pub, nil, sig, true)
	wantVerify(t, "empty", pub, []byte{}, sig, true)
	wantVerify(t, "a byte 0", pub, []byte{0}, sig, false)
	wantVerify(t, "a byte 128", pub, []byte{128}, sig, false) // what the padding begins with
}

// A byte more or less, at either end, is another message.
func TestMessageOfAnotherLength(t *testing.T) {
	seed, pub := someSeed(3), publicOf(t, someSeed(3))
	for n := 1; n < 140; n++ {
		msg := someMessage(n)
		sig := signed(t, seed, msg)
		wantVerify(t, "one less", pub, msg[:n-1], sig, false)
		wantVerify(t, "one less at the start", pub, msg[1:], sig, false)
		wantVerify(t, "one more", pub, append(slices.Clone(msg), 0), sig, false)
		wantVerify(t, "one more at the start", pub, append([]byte{0}, msg...), sig, false)
	}
}

// R5: the same each time, whatever was done between.
func TestSignTwice(t *testing.T) {
	seed, msg := someSeed(4), someMessage(100)
	pub, sig := publicOf(t, seed), signed(t, seed, msg)
	for n := range 40 {
		other := someSeed(5 + n)
		wantVerify(t, "another's", pub, msg, signed(t, other, msg), false)
		sign.Sign(other[:n%32], msg)
		sign.Verify(other, msg, sig)
		if p, s := publicOf(t, seed), signed(t, slices.Clone(seed), slices.Clone(msg)); !bytes.Equal(p, pub) || !bytes.Equal(s, sig) {
			t.Fatalf("time %d: %x %x, want %x %x", n, p, s, pub, sig)
		}
		wantVerify(t, "again", pub, msg, sig, true)
	}
}

// Each seed, and each message, has a first half of its own: the same one twice would give the secret away.
func TestFirstHalvesDiffer(t *testing.T) {
	seen := map[string]string{}
	for n := range 20 {
		for m := range 20 {
			what := fmt.Sprintf("seed %d, message %d", n, m)
			half := string(signed(t, someSeed(n), someMessage(m))[:32])
			if before, ok := seen[half]; ok {
				t.Errorf("%s has the first half of %s", what, before)
			}
			seen[half] = what
		}
	}
}

func TestSizes(t *testing.T) {
	seed, msg := someSeed(6), []byte("x")
	pub, sig := publicOf(t, seed), signed(t, seed, msg)
	morePub, moreSig := append(slices.Clone(pub), pub...), append(slices.Clone(sig), sig...)
	wantVerify(t, "both with spare capacity", morePub[:32], msg, moreSig[:64], true)
	wantVerify(t, "nothing", nil, nil, nil, false)
	for n := range 65 {
		if n != 32 {
			wantVerify(t, fmt.Sprintf("a key of %d bytes", n), morePub[:n], msg, sig, false)
			wantVerify(t, fmt.Sprintf("a key of %d bytes 0", n), make([]byte, n), msg, sig, false)
		}
	}
	for n := range 129 {
		if n != 64 {
			wantVerify(t, fmt.Sprintf("a signature of %d bytes", n), pub, msg, moreSig[:n], false)
			wantVerify(t, fmt.Sprintf("a signature of %d bytes 0", n), pub, msg, make([]byte, n), false)
		}
	}
	wantVerify(t, "key nil", nil, msg, sig, false)
	wantVerify(t, "signature nil", pub, msg, nil, false)
	wantVerify(t, "a signature with a byte 0 more", pub, msg, append(slices.Clone(sig), 0), false)
	wantVerify(t, "a key with a byte 0 more", append(slices.Clone(pub), 0), msg, sig, false)
	wantVerify(t, "a signature without its end", pub, msg, sig[:63:63], false)
	wantVerify(t, "a key without its end", pub[:31:31], msg, sig, false)
}

// What is hashed is one row of bytes: it stays the same if the key takes bytes from the message, or gives it some, but the key has 32 bytes.
func TestKeyAndMessagePartedElsewhere(t *testing.T) {
	seed, msg := someSeed(12), someMessage(40)
	pub, sig := publicOf(t, seed), signed(t, seed, msg)
	for n := range len(msg) + 1 {
		wantVerify(t, fmt.Sprintf("%d bytes from the message", n), slices.Concat(pub, msg[:n]), msg[n:], sig, n == 0)
	}
	for n := range len(pub) + 1 {
		wantVerify(t, fmt.Sprintf("all but %d bytes to the message", n), pub[:n], slices.Concat(pub[n:], msg), sig, n == 32)
	}
}

func TestEachByteTurned(t *testing.T) {
	seed, msg := someSeed(7), someMessage(20)
	pub, sig := publicOf(t, seed), signed(t, seed, msg)
	parts := []struct {
		name string
		b    []byte
	}{{"key", pub}, {"message", msg}, {"signature", sig}}
	for _, p := range parts {
		for i := range p.b {
			for _, mask := range []byte{1, 2, 4, 8, 16, 32, 64, 128, 255} {
				p.b[i] ^= mask
				wantVerify(t, fmt.Sprintf("byte %d of the %s turned by %d", i, p.name, mask), pub, msg, sig, false)
				p.b[i] ^= mask
			}
		}
	}
	wantVerify(t, "turned back", pub, msg, sig, true)
}

func TestHalvesOfTwoSignatures(t *testing.T) {
	seed, pub := someSeed(8), publicOf(t, someSeed(8))
	a, b := signed(t, seed, []byte("a")), signed(t, seed, []byte("b"))
	wantVerify(t, "the first of a", pub, []byte("a"), slices.Concat(a[:32], b[32:]), false)
	wantVerify(t, "the second of a", pub, []byte("a"), slices.Concat(b[:32], a[32:]), false)
	wantVerify(t, "the wrong way round", pub, []byte("a"), slices.Concat(a[32:], a[:32]), false)
	wantVerify(t, "of b", pub, []byte("a"), b, false)
}

// A room is memory of which a part is passed: the rest is spare capacity.
type room struct{ all, before []byte }

func roomOf(b []byte) room {
	all := append(slices.Clone(b), bytes.Repeat([]byte{0xa5}, 100)...)
	return room{all, slices.Clone(all)}
}

func (r room) part(n int) []byte { return r.all[:n] }

func wantUnchanged(t *testing.T, what string, l ...room) {
	t.Helper()
	for i, r := range l {
		if !bytes.Equal(r.all, r.before) {
			t.Errorf("%s: argument %d was changed", what, i)
		}
	}
}

// R4: no argument is changed, spare capacity included.
func TestArgumentsStay(t *testing.T) {
	for n := range 70 {
		seed, msg := roomOf(someSeed(n)), roomOf(someMessage(3*n))
		pub, sig := roomOf(publicOf(t, seed.part(32))), roomOf(signed(t, seed.part(32), msg.part(3*n)))
		wantVerify(t, "a good one", pub.part(32), msg.part(3*n), sig.part(64), true)
		sign.Public(seed.part(n))
		sign.Sign(seed.part(n), msg.part(3*n))
		sign.Verify(pub.part(n), msg.part(3*n), sig.part(64))
		sign.Verify(pub.part(32), msg.part(n), sig.part(n))
		sign.Verify(msg.part(32), msg.part(n), msg.part(64))
		wantUnchanged(t, fmt.Sprint("round ", n), seed, msg, pub, sig)
	}
}

// R4: a result is new memory; what is done to it, or to an argument, changes no other result.
func TestResultsAreNew(t *testing.T) {
	seed, msg := someSeed(9), someMessage(50)
	pub, sig := publicOf(t, seed), signed(t, seed, msg)
	keptPub, keptSig := slices.Clone(pub), slices.Clone(sig)
	otherPub, otherSig := publicOf(t, seed), signed(t, seed, msg)
	clear(otherPub[:cap(otherPub)])
	clear(otherSig[:cap(otherSig)])
	if !bytes.Equal(pub, keptPub) || !bytes.Equal(sig, keptSig) {
		t.Errorf("results changed with others: %x %x", pub, sig)
	}
	if p, s := publicOf(t, seed), signed(t, seed, msg); !bytes.Equal(p, keptPub) || !bytes.Equal(s, keptSig) {
		t.Errorf("later results changed: %x %x", p, s)
	}
	clear(seed)
	clear(msg)
	if !bytes.Equal(pub, keptPub) || !bytes.Equal(sig, keptSig) {
		t.Errorf("results changed with arguments: %x %x", pub, sig)
	}
}

// One slice may be several arguments at once.
func TestOneSliceTwice(t *testing.T) {
	seed := someSeed(10)
	wantSame(t, seed, seed)
	pub := publicOf(t, seed)
	wantVerify(t, "the key signed", pub, pub, signed(t, seed, pub), true)
	sig := signed(t, seed, nil)
	wantVerify(t, "the signature as the message too", pub, sig, sig, false)
	wantVerify(t, "one slice", sig[:32], sig, sig, false)
}

func Example() {
	seed, msg := make([]byte, 32), []byte("who may come in")
	pub, _ := sign.Public(seed)
	sig, _ := sign.Sign(seed, msg)
	_, e := sign.Sign(seed[:31], msg)
	fmt.Println(len(pub), len(sig), sign.Verify(pub, msg, sig))
	fmt.Println(e == api.ErrArg, sign.Verify(pub, msg[1:], sig))
	// Output:
	// 32 64 true
	// true false
}
