package token_test

import (
	"bytes"
	"math/rand"
	"slices"
	"testing"

	"deponent/api"
	"deponent/token"
)

// TestNarrowedHoldsForNoMore: P12.5, a narrowed token holds where the one that it came of does and the caveat is kept, nowhere else.
func TestNarrowedHoldsForNoMore(t *testing.T) {
	rnd := rand.New(rand.NewSource(141))
	root := roots()[2]
	near := []api.Caveat{{Kind: api.OnTree}, {Kind: api.OnTree, N: 1}, {Kind: api.Below}, {Kind: api.Below, N: 1}, {Kind: api.Below, N: 3}, {Kind: api.Until}, {Kind: api.Until, N: 2}, {Kind: api.Until, N: 1<<32 - 1}}
	met := map[bool]int{}
	for range 300 {
		x := token.Mint(root, rnd.Uint32())
		for range api.MaxCaveats {
			c := pick(rnd, near)
			y := mustNarrow(t, x, c)
			if !token.Genuine(root, y) || !token.Genuine(root, x) {
				t.Fatalf("%+v, narrowed to %+v, is not genuine", x, y)
			}
			for op := -1; op < 4; op++ {
				for tree := -1; tree < 3; tree++ {
					for _, clock := range []uint64{0, 1, 2, 1<<32 - 1, 1<<64 - 1} {
						was, is := token.Holds(x, op, tree, clock), token.Holds(y, op, tree, clock)
						if is != (was && wantedPermits(c, op, tree, clock)) {
							t.Fatalf("%+v, narrowed to %+v: (%d, %d, %d): %v, %v", x, y, op, tree, clock, was, is)
						}
						met[is]++
					}
				}
			}
			x = y
		}
	}
	if met[true] < 100 || met[false] < 100 {
		t.Errorf("%v: the test tells too little", met)
	}
}

// TestNarrowedStaysAsItWas: P12.5, what is not genuine is not made genuine by narrowing it.
func TestNarrowedStaysAsItWas(t *testing.T) {
	rnd := rand.New(rand.NewSource(142))
	met := map[bool]int{}
	for range 2000 {
		root := pick(rnd, roots())
		x := tagged(root, rnd.Uint32(), someCaveats(rnd, rnd.Intn(api.MaxCaveats))...)
		switch rnd.Intn(6) {
		case 0:
			x.Id++
		case 1:
			x.Tag[rnd.Intn(32)]++
		case 2:
			x.Caveats = append(someCaveats(rnd, 1), x.Caveats[min(1, len(x.Caveats)):]...)
		}
		was := token.Genuine(root, x)
		met[was]++
		if y := mustNarrow(t, x, someCaveats(rnd, 1)[0]); token.Genuine(root, y) != was || was != wantedGenuine(root, x) {
			t.Fatalf("%+v: %v; narrowed %+v: %v", x, was, y, !was)
		}
	}
	if met[true] < 200 || met[false] < 200 {
		t.Errorf("%v: the test tells too little", met)
	}
}

// TestDecodeOfEncode: P12.5, of all lists of few caveats: the token, genuine as before, with the same bytes.
func TestDecodeOfEncode(t *testing.T) {
	root := roots()[2]
	for _, l := range lists(api.MaxCaveats) {
		x := mustNarrow(t, token.Mint(root, 258), l...)
		b := mustEncode(t, x)
		y := mustDecode(t, b)
		if !same(x, y) || !token.Genuine(root, y) || !bytes.Equal(mustEncode(t, y), b) {
			t.Fatalf("%+v, not %+v", y, x)
		}
	}
}

// hand is a token by the words of the chapter: its root, its Id, and its caveats.
type hand struct {
	root api.Digest
	id   uint32
	l    []api.Caveat
}

// TestChains: P12.1 to P12.5, calls on end, by way of bytes too, each answered as the chapter has it.
func TestChains(t *testing.T) {
	rnd := rand.New(rand.NewSource(143))
	met := map[api.Errno]int{}
	for range 500 {
		h := hand{root: pick(rnd, roots()), id: pick(rnd, numbers)}
		x := token.Mint(h.root, h.id)
		for range 12 {
			switch rnd.Intn(4) {
			case 0, 1:
				c := api.Caveat{Kind: pick(rnd, append(strangeKinds[:3:3], kinds...)), N: pick(rnd, numbers)}
				y, why := token.Narrow(x, c)
				want := api.OK
				switch {
				case !slices.Contains(kinds, c.Kind):
					want = api.ErrArg
				case len(h.l) == 4:
					want = api.ErrMany
				default:
					h.l = append(h.l, c)
					x = y
				}
				if met[why]++; why != want || why != api.OK && !same(y, api.Token{}) {
					t.Fatalf("Narrow by %+v: %+v, %v, not %v", c, y, why, want)
				}
			case 2:
				x = mustDecode(t, mustEncode(t, x))
			case 3:
				op, tree, clock := pick(rnd, ints), pick(rnd, ints), pick(rnd, clocks)
				if token.Holds(x, op, tree, clock) != wantedHolds(h.l, op, tree, clock) {
					t.Fatalf("%+v: Holds(%d, %d, %d)", x, op, tree, clock)
				}
			}
			if !same(x, tagged(h.root, h.id, h.l...)) {
				t.Fatalf("%+v, not %+v", x, h)
			}
			wantGenuine(t, "on end", h.root, x, true)
		}
	}
	if met[api.OK] < 200 || met[api.ErrArg] < 200 || met[api.ErrMany] < 100 {
		t.Errorf("%v: the test tells too little", met)
	}
}
