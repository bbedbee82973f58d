package token_test

import (
	"bytes"
	"math/rand"
	"slices"
	"testing"

	"deponent/api"
	"deponent/token"
)

// TestEncode: P12.3, of no caveats, of one, of as many as may be, with numbers at all their ends; a token needs not be genuine.
func TestEncode(t *testing.T) {
	rnd := rand.New(rand.NewSource(131))
	for n := range api.MaxCaveats + 1 {
		for _, id := range numbers {
			for _, tag := range append(roots(), someDigest(rnd)) {
				x := api.Token{Id: id, Caveats: someCaveats(rnd, n), Tag: tag}
				got := mustEncode(t, x)
				if want := wantedBytes(x); !bytes.Equal(got, want) || len(got) != 37+5*n {
					t.Fatalf("Encode(%+v): %x, not %x", x, got, want)
				}
			}
		}
	}
}

// TestEncodeWrittenOut: P12.3, each field at its place.
func TestEncodeWrittenOut(t *testing.T) {
	x := api.Token{Id: 0x0a0b0c0d, Caveats: []api.Caveat{{Kind: api.Until, N: 0x10111213}, {Kind: api.OnTree, N: 0x20212223}, {Kind: api.Below, N: 0xfffffffe}}}
	for i := range x.Tag {
		x.Tag[i] = byte(0x30 + i)
	}
	want := "\x0a\x0b\x0c\x0d" + "\x03" + "\x03\x10\x11\x12\x13" + "\x01\x20\x21\x22\x23" + "\x02\xff\xff\xff\xfe" +
		"\x30\x31\x32\x33\x34\x35\x36\x37\x38\x39\x3a\x3b\x3c\x3d\x3e\x3f\x40\x41\x42\x43\x44\x45\x46\x47\x48\x49\x4a\x4b\x4c\x4d\x4e\x4f"
	if got := mustEncode(t, x); string(got) != want {
		t.Errorf("%x", got)
	}
	if got := mustEncode(t, api.Token{}); !bytes.Equal(got, make([]byte, 37)) {
		t.Errorf("nothing: %x", got)
	}
}

// TestEncodeOfNoKind: P12.3, ErrArg of a Kind that is none, at each place.
func TestEncodeOfNoKind(t *testing.T) {
	rnd := rand.New(rand.NewSource(132))
	for n := 1; n <= api.MaxCaveats; n++ {
		for i := range n {
			for _, kind := range strangeKinds {
				x := tagged(roots()[2], 7, someCaveats(rnd, n)...)
				x.Caveats[i].Kind = kind
				wantNoBytes(t, x, api.ErrArg)
				wantNoBytes(t, tagged(roots()[2], 7, x.Caveats...), api.ErrArg)
			}
		}
	}
	for n := 1; n <= api.MaxCaveats; n++ {
		wantNoBytes(t, api.Token{Caveats: make([]api.Caveat, n)}, api.ErrArg)
	}
}

// TestEncodeOfTooMany: P12.3, ErrMany of more caveats than may be, also of as many more as a byte wraps round at; it comes ahead of ErrArg.
func TestEncodeOfTooMany(t *testing.T) {
	rnd := rand.New(rand.NewSource(133))
	for _, n := range []int{api.MaxCaveats + 1, api.MaxCaveats + 2, 255, 256, 257, 258, 260, 512, 70000} {
		x := api.Token{Id: 7, Caveats: someCaveats(rnd, n), Tag: someDigest(rnd)}
		wantNoBytes(t, x, api.ErrMany)
		for _, kind := range strangeKinds {
			for _, i := range []int{0, n / 2, n - 1} {
				y := clone(x)
				y.Caveats[i].Kind = kind
				wantNoBytes(t, y, api.ErrMany)
			}
		}
		wantNoBytes(t, api.Token{Caveats: make([]api.Caveat, n)}, api.ErrMany)
	}
}

// TestBytesAreUnlike: tokens that are not the same have unlike bytes.
func TestBytesAreUnlike(t *testing.T) {
	seen := map[string]int{}
	n := 0
	for _, tag := range roots() {
		for _, id := range []uint32{0, 1, 256} {
			for _, l := range lists(api.MaxCaveats) {
				seen[string(mustEncode(t, api.Token{Id: id, Caveats: slices.Clone(l), Tag: tag}))]++
				n++
			}
		}
	}
	if len(seen) != n {
		t.Errorf("%d tokens have %d encodings", n, len(seen))
	}
	if a, _ := token.Encode(api.Token{}); seen[string(a)] != 1 {
		t.Error("nothing is not among them")
	}
}
