package token_test

import (
	"math/rand"
	"slices"
	"testing"

	"deponent/api"
	"deponent/sha"
	"deponent/token"
)

// TestMint: P12.1, of roots and numbers at all their ends.
func TestMint(t *testing.T) {
	for _, root := range roots() {
		for _, id := range numbers {
			if got, want := token.Mint(root, id), tagged(root, id); !same(got, want) {
				t.Errorf("Mint(%x, %d): %+v, not %+v", root, id, got, want)
			}
		}
	}
}

// TestMintIsAMac: P12.1, the bytes, written out.
func TestMintIsAMac(t *testing.T) {
	root := roots()[2]
	x := token.Mint(root, 0x0a0b0c0d)
	if x.Id != 0x0a0b0c0d || len(x.Caveats) != 0 || x.Tag != sha.Mac(root[:], []byte("token\x0a\x0b\x0c\x0d")) {
		t.Errorf("%+v", x)
	}
}

// TestNarrowIsAMac: P12.1, the bytes, written out, by all 32 bytes of the old tag.
func TestNarrowIsAMac(t *testing.T) {
	x := token.Mint(roots()[2], 9)
	for kind, text := range map[int]string{api.OnTree: "\x01\x0a\x0b\x0c\x0d", api.Below: "\x02\x0a\x0b\x0c\x0d", api.Until: "\x03\x0a\x0b\x0c\x0d"} {
		c := api.Caveat{Kind: kind, N: 0x0a0b0c0d}
		y := mustNarrow(t, x, c)
		if y.Id != 9 || !slices.Equal(y.Caveats, []api.Caveat{c}) || y.Tag != sha.Mac(x.Tag[:], []byte(text)) {
			t.Errorf("%+v", y)
		}
		z := mustNarrow(t, y, c)
		if z.Id != 9 || !slices.Equal(z.Caveats, []api.Caveat{c, c}) || z.Tag != sha.Mac(y.Tag[:], []byte(text)) {
			t.Errorf("%+v", z)
		}
	}
}

// TestNarrow: P12.1, each Kind and N behind none, one, and up to as many as may be; what is narrowed is answered with the others ahead.
func TestNarrow(t *testing.T) {
	rnd := rand.New(rand.NewSource(121))
	for _, root := range roots() {
		for n := range api.MaxCaveats {
			for _, kind := range kinds {
				for _, number := range numbers {
					l := append(someCaveats(rnd, n), api.Caveat{Kind: kind, N: number})
					x := tagged(root, number, l[:n]...)
					if got, want := mustNarrow(t, x, l[n]), tagged(root, number, l...); !same(got, want) {
						t.Fatalf("Narrow(%+v, %+v): %+v, not %+v", x, l[n], got, want)
					}
				}
			}
		}
	}
}

// TestNarrowOfAnyToken: P12.1, whoever has a token narrows it, be it genuine or not: its caveats and its tag are taken as they are.
func TestNarrowOfAnyToken(t *testing.T) {
	rnd := rand.New(rand.NewSource(122))
	for n := range api.MaxCaveats {
		for _, kind := range strangeKinds {
			x := api.Token{Id: rnd.Uint32(), Caveats: someCaveats(rnd, n), Tag: someDigest(rnd)}
			if n > 0 {
				x.Caveats[rnd.Intn(n)].Kind = kind
			}
			c := someCaveats(rnd, 1)[0]
			want := api.Token{Id: x.Id, Caveats: append(slices.Clone(x.Caveats), c), Tag: wantedMac(x.Tag, wantedCaveat(c))}
			if got := mustNarrow(t, x, c); !same(got, want) {
				t.Fatalf("Narrow(%+v, %+v): %+v, not %+v", x, c, got, want)
			}
		}
	}
}

// TestNarrowByNoKind: P12.1, ErrArg, whatever N it has, however few caveats there are.
func TestNarrowByNoKind(t *testing.T) {
	rnd := rand.New(rand.NewSource(123))
	for n := range api.MaxCaveats {
		for _, kind := range strangeKinds {
			for _, number := range numbers {
				x := tagged(roots()[2], number, someCaveats(rnd, n)...)
				wantNoToken(t, x, api.Caveat{Kind: kind, N: number}, api.ErrArg)
			}
		}
	}
}

// TestNarrowOfTooMany: P12.1, ErrMany of as many caveats as may be, and of more, of Kinds that there are or not.
func TestNarrowOfTooMany(t *testing.T) {
	rnd := rand.New(rand.NewSource(124))
	for _, n := range []int{api.MaxCaveats, api.MaxCaveats + 1, api.MaxCaveats + 2, 255, 256, 257, 260, 70000} {
		for _, kind := range append(slices.Clone(kinds), strangeKinds...) {
			x := api.Token{Id: 7, Caveats: make([]api.Caveat, n), Tag: someDigest(rnd)}
			x.Caveats[rnd.Intn(n)].Kind = kind
			for _, c := range few {
				wantNoToken(t, x, c, api.ErrMany)
			}
		}
	}
}

// TestNarrowFirstRefusal: P12.1, ErrArg comes ahead of ErrMany.
func TestNarrowFirstRefusal(t *testing.T) {
	rnd := rand.New(rand.NewSource(125))
	for _, n := range []int{api.MaxCaveats, api.MaxCaveats + 1, 300} {
		x := tagged(roots()[2], 7, someCaveats(rnd, n)...)
		for _, kind := range strangeKinds {
			wantNoToken(t, x, api.Caveat{Kind: kind, N: 5}, api.ErrArg)
		}
	}
}

// TestNarrowOnEnd: P12.1, up to MaxCaveats and one more, by each Kind alone.
func TestNarrowOnEnd(t *testing.T) {
	root := roots()[2]
	for _, kind := range kinds {
		x := token.Mint(root, 7)
		var l []api.Caveat
		for n := range uint32(api.MaxCaveats) {
			l = append(l, api.Caveat{Kind: kind, N: n})
			x = mustNarrow(t, x, l[n])
			if !same(x, tagged(root, 7, l...)) || !token.Genuine(root, x) {
				t.Fatalf("%d caveats: %+v", n+1, x)
			}
		}
		wantNoToken(t, x, l[0], api.ErrMany)
		if !same(x, tagged(root, 7, l...)) || !token.Genuine(root, x) {
			t.Fatalf("behind a refusal: %+v", x)
		}
	}
}
