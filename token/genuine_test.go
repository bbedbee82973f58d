package token_test

import (
	"math/rand"
	"slices"
	"testing"

	"deponent/api"
	"deponent/token"
)

// wantGenuine asks Genuine, and Forged of each list of minted numbers: of what is not genuine nothing is forged.
func wantGenuine(t *testing.T, what string, root api.Digest, x api.Token, want bool) {
	t.Helper()
	if wantedGenuine(root, x) != want {
		t.Fatalf("%s: %+v: the test is wrong", what, x)
	}
	if token.Genuine(root, x) != want {
		t.Fatalf("%s: %+v: Genuine: %v", what, x, !want)
	}
	for _, without := range [][]uint32{nil, {}, {x.Id + 1}, {x.Id - 1, x.Id + 1, x.Id ^ 1<<31}} {
		if token.Forged(root, without, x) != want {
			t.Fatalf("%s: %+v: Forged, of %d minted: %v", what, x, without, !want)
		}
	}
	for _, with := range [][]uint32{{x.Id}, {x.Id, x.Id}, {x.Id, x.Id + 1}, {x.Id - 1, x.Id + 1, x.Id}, {x.Id + 1, x.Id, x.Id - 1}} {
		if token.Forged(root, with, x) {
			t.Fatalf("%s: %+v: Forged, of %d minted", what, x, with)
		}
	}
}

// TestGenuine: P12.1, of all lists of caveats up to as many as may be, of roots and numbers at their ends.
func TestGenuine(t *testing.T) {
	for _, l := range lists(api.MaxCaveats) {
		wantGenuine(t, "narrowed", roots()[2], mustNarrow(t, token.Mint(roots()[2], 7), l...), true)
	}
	for _, root := range roots() {
		for _, id := range numbers {
			for _, number := range numbers {
				x := tagged(root, id, api.Caveat{Kind: api.OnTree, N: number}, api.Caveat{Kind: api.Below, N: number}, api.Caveat{Kind: api.Until, N: number})
				wantGenuine(t, "at the ends", root, x, true)
			}
		}
	}
}

// others answers what x becomes if its caveats are left out, put in twice, moved, or added to, each in every way.
func others(x api.Token) map[string][]api.Token {
	all := map[string][]api.Token{}
	add := func(what string, l []api.Caveat) {
		if !slices.Equal(l, x.Caveats) {
			all[what] = append(all[what], api.Token{Id: x.Id, Caveats: l, Tag: x.Tag})
		}
	}
	for i, c := range x.Caveats {
		add("left out", slices.Concat(x.Caveats[:i], x.Caveats[i+1:]))
		add("all from it on left out", slices.Clone(x.Caveats[:i]))
		for j := range len(x.Caveats) + 1 {
			add("put in twice", slices.Insert(slices.Clone(x.Caveats), j, c))
		}
		for j := range x.Caveats {
			moved := slices.Concat(x.Caveats[:i], x.Caveats[i+1:])
			add("moved", slices.Insert(moved, j, c))
		}
	}
	for j := range len(x.Caveats) + 1 {
		for _, c := range few {
			add("one more", slices.Insert(slices.Clone(x.Caveats), j, c))
		}
	}
	return all
}

// TestOtherCaveats: P12.1 and P12.4, a caveat left out, put in twice, moved, or one more than were tagged.
func TestOtherCaveats(t *testing.T) {
	root := roots()[2]
	for _, l := range lists(3) {
		for what, all := range others(tagged(root, 7, l...)) {
			for _, x := range all {
				wantGenuine(t, what, root, x, false)
			}
		}
	}
	full := tagged(root, 7, few...)
	for what, all := range others(full) {
		for _, x := range all {
			wantGenuine(t, what, root, x, false)
		}
	}
	wantGenuine(t, "as it was", root, full, true)
}

// TestTurnedCaveats: P12.1, with one bit of N turned, or another Kind.
func TestTurnedCaveats(t *testing.T) {
	rnd := rand.New(rand.NewSource(126))
	for n := 1; n <= api.MaxCaveats; n++ {
		root := someDigest(rnd)
		x := tagged(root, rnd.Uint32(), someCaveats(rnd, n)...)
		for i := range n {
			for bit := range 32 {
				y := clone(x)
				y.Caveats[i].N ^= 1 << bit
				wantGenuine(t, "N turned", root, y, false)
			}
			for _, kind := range append(slices.Clone(kinds), strangeKinds...) {
				y := clone(x)
				y.Caveats[i].Kind = kind
				wantGenuine(t, "another Kind", root, y, kind == x.Caveats[i].Kind)
			}
		}
	}
}

// TestTurnedBits: P12.1, with one bit turned in the Id, the Tag, or the root, with no caveats and with as many as may be.
func TestTurnedBits(t *testing.T) {
	rnd := rand.New(rand.NewSource(127))
	for n := range api.MaxCaveats + 1 {
		root := someDigest(rnd)
		x := tagged(root, rnd.Uint32(), someCaveats(rnd, n)...)
		for bit := range 32 {
			y := clone(x)
			y.Id ^= 1 << bit
			wantGenuine(t, "Id turned", root, y, false)
		}
		for bit := range 256 {
			y, other := clone(x), root
			y.Tag[bit/8] ^= 1 << (bit % 8)
			other[bit/8] ^= 1 << (bit % 8)
			wantGenuine(t, "Tag turned", root, y, false)
			wantGenuine(t, "root turned", other, x, false)
		}
		wantGenuine(t, "as it was", root, x, true)
	}
}

// TestStrangeKinds: P12.1, a Kind that there is not, or more caveats than may be, are not genuine, though the tag be the Mac of them.
func TestStrangeKinds(t *testing.T) {
	rnd := rand.New(rand.NewSource(128))
	root := roots()[2]
	for n := 1; n <= api.MaxCaveats; n++ {
		for _, kind := range strangeKinds {
			for i := range n {
				l := someCaveats(rnd, n)
				l[i].Kind = kind
				wantGenuine(t, "a strange Kind, tagged", root, tagged(root, 7, l...), false)
			}
		}
	}
	for _, n := range []int{api.MaxCaveats + 1, api.MaxCaveats + 2, 255, 256, 257, 260, 3000} {
		wantGenuine(t, "too many, tagged", root, tagged(root, 7, someCaveats(rnd, n)...), false)
	}
	many := tagged(root, 7, few...)
	many.Caveats = append(many.Caveats, few...)
	wantGenuine(t, "too many, tagged for the first", root, many, false)
}

// TestGenuineOfNothing: tags that no one has reckoned.
func TestGenuineOfNothing(t *testing.T) {
	for _, root := range roots() {
		for _, tag := range roots() {
			for _, l := range [][]api.Caveat{nil, {}, few[:1], few, append(slices.Clone(few), few...), {{}}} {
				wantGenuine(t, "no one's tag", root, api.Token{Caveats: l, Tag: tag}, false)
			}
		}
	}
	wantGenuine(t, "nothing", api.Digest{}, api.Token{}, false)
}

// TestForged: P12.4, of every place at which the Id may stand among those that were minted.
func TestForged(t *testing.T) {
	root := roots()[2]
	minted := slices.Clone(numbers)
	for i, id := range minted {
		without := slices.Concat(minted[:i], minted[i+1:])
		for _, l := range lists(2) {
			x := mustNarrow(t, token.Mint(root, id), l...)
			if token.Forged(root, minted, x) || !token.Forged(root, without, x) {
				t.Fatalf("%+v: %v, %v", x, token.Forged(root, minted, x), token.Forged(root, without, x))
			}
			if other := roots()[1]; token.Forged(other, minted, x) || token.Forged(other, without, x) {
				t.Fatalf("%+v is forged by another root", x)
			}
		}
	}
}

// TestTagsAreUnlike: all lists of few caveats, of some numbers and roots, have tags of their own.
func TestTagsAreUnlike(t *testing.T) {
	seen := map[api.Digest]int{}
	n := 0
	for _, root := range roots() {
		for _, id := range []uint32{0, 1, 256} {
			for _, l := range lists(api.MaxCaveats) {
				seen[mustNarrow(t, token.Mint(root, id), l...).Tag]++
				n++
			}
		}
	}
	if len(seen) != n {
		t.Errorf("%d tokens have %d tags", n, len(seen))
	}
}
