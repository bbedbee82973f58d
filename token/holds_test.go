package token_test

import (
	"math"
	"math/big"
	"math/rand"
	"slices"
	"testing"

	"deponent/api"
	"deponent/token"
)

// ints are operations and trees: those that there are, and others, at the ends of int too.
var ints = []int{math.MinInt, math.MinInt + 1, -half, math.MinInt32, -256, -2, -1, 0, 1, 2, 3, 4, 5, 12, 13, 15, 16, 255, 256, 257, 65535, 65536, math.MaxInt32, half - 1, half, half + 1, half + 3, math.MaxInt - 1, math.MaxInt}

var clocks = []uint64{0, 1, 2, 3, 4, 255, 256, 257, 65536, math.MaxInt32, 1 << 31, math.MaxUint32 - 1, math.MaxUint32, 1 << 32, 1<<32 + 1, 1<<32 + 3, math.MaxInt64, 1 << 63, math.MaxUint64 - 1, math.MaxUint64}

func whole(n int) *big.Int { return big.NewInt(int64(n)) }

// wantedPermits compares numbers that have no ends.
func wantedPermits(c api.Caveat, op, tree int, clock uint64) bool {
	n := new(big.Int).SetUint64(uint64(c.N))
	switch c.Kind {
	case api.OnTree:
		return whole(tree).Cmp(n) == 0
	case api.Below:
		return whole(op).Cmp(n) < 0
	case api.Until:
		return new(big.Int).SetUint64(clock).Cmp(n) < 0
	}
	return false
}

// wantedHolds is P12.2 by its words.
func wantedHolds(l []api.Caveat, op, tree int, clock uint64) bool {
	for _, c := range l {
		if !wantedPermits(c, op, tree, clock) {
			return false
		}
	}
	return true
}

func wantHolds(t *testing.T, l []api.Caveat, op, tree int, clock uint64, want bool) {
	t.Helper()
	if got := token.Holds(api.Token{Id: 7, Caveats: l, Tag: api.Digest{9}}, op, tree, clock); got != want {
		t.Fatalf("%+v: Holds(%d, %d, %d): %v", l, op, tree, clock, got)
	}
}

// TestHoldsOfNone: P12.2, without caveats it holds for everything.
func TestHoldsOfNone(t *testing.T) {
	for _, n := range ints {
		for _, clock := range clocks {
			wantHolds(t, nil, n, -n, clock, true)
			wantHolds(t, []api.Caveat{}, -n, n, clock, true)
		}
	}
}

// TestHoldsOfOne: P12.2, each Kind with each N, asked at all ends.
func TestHoldsOfOne(t *testing.T) {
	for _, number := range numbers {
		for _, kind := range kinds {
			l := []api.Caveat{{Kind: kind, N: number}}
			for _, op := range ints {
				for _, tree := range ints {
					for _, clock := range clocks {
						wantHolds(t, l, op, tree, clock, wantedHolds(l, op, tree, clock))
					}
				}
			}
		}
	}
}

// TestHoldsAboutN: P12.2, one below N, N, and one above it; what the Kind does not ask of counts for nothing.
func TestHoldsAboutN(t *testing.T) {
	rnd := rand.New(rand.NewSource(129))
	for _, n := range append([]uint32{rnd.Uint32() >> 1}, 1, 2, 12, 15, 256, 65536, math.MaxInt32-1) {
		for _, other := range ints {
			for step, at := range []int{int(n) - 1, int(n), int(n) + 1} {
				clock := uint64(at)
				wantHolds(t, []api.Caveat{{Kind: api.OnTree, N: n}}, other, at, uint64(other), step == 1)
				wantHolds(t, []api.Caveat{{Kind: api.Below, N: n}}, at, other, uint64(other), step == 0)
				wantHolds(t, []api.Caveat{{Kind: api.Until, N: n}}, other, -other, clock, step == 0)
			}
		}
	}
}

// TestHoldsAtTheGreatest: P12.2, N is the greatest, and what is asked has the same lowest bytes: nothing wraps round.
func TestHoldsAtTheGreatest(t *testing.T) {
	const most = math.MaxUint32
	for _, clock := range []uint64{0, most - 1} {
		wantHolds(t, []api.Caveat{{Kind: api.Until, N: most}}, 1, 1, clock, true)
	}
	for _, clock := range []uint64{most, most + 1, 1<<33 - 1, 1 << 33, math.MaxUint64} {
		wantHolds(t, []api.Caveat{{Kind: api.Until, N: most}}, 1, 1, clock, false)
	}
	for _, tree := range []int{-1, math.MinInt, math.MaxInt, 0, 15} {
		wantHolds(t, []api.Caveat{{Kind: api.OnTree, N: most}}, 1, tree, 0, false)
	}
	wantHolds(t, []api.Caveat{{Kind: api.OnTree, N: 1 << 31}}, 1, math.MinInt32, 0, false)
	wantHolds(t, []api.Caveat{{Kind: api.OnTree, N: 0}}, 1, math.MinInt, 0, false)
	for _, op := range []int{math.MinInt, -1, 0, math.MaxInt32} {
		wantHolds(t, []api.Caveat{{Kind: api.Below, N: most}}, op, 1, 0, true)
	}
	wantHolds(t, []api.Caveat{{Kind: api.Below, N: 0}}, 0, 1, 0, false)
	wantHolds(t, []api.Caveat{{Kind: api.Below, N: 0}}, -1, 1, 0, true)
}

// TestHoldsOfAll: P12.2, every caveat is asked, at whichever place it stands, and of however many.
func TestHoldsOfAll(t *testing.T) {
	good := []api.Caveat{{Kind: api.OnTree, N: 3}, {Kind: api.Below, N: 5}, {Kind: api.Until, N: 9}}
	bad := []api.Caveat{{Kind: api.OnTree, N: 2}, {Kind: api.OnTree, N: 4}, {Kind: api.Below, N: 4}, {Kind: api.Below}, {Kind: api.Until, N: 8}, {Kind: api.Until}, {}, {Kind: 4, N: 3}, {Kind: -1, N: 9}}
	for _, n := range []int{1, 2, 3, 4, 5, 6, 9, 300} {
		l := slices.Repeat(good, 100)[:n]
		wantHolds(t, l, 4, 3, 8, true)
		for i := range n {
			for _, c := range bad {
				other := slices.Clone(l)
				other[i] = c
				wantHolds(t, other, 4, 3, 8, false)
			}
		}
	}
}

// TestHoldsOfNoKind: P12.2, an unknown Kind holds never, whatever N it has, alone or beside others.
func TestHoldsOfNoKind(t *testing.T) {
	for _, kind := range strangeKinds {
		for _, number := range numbers {
			c := api.Caveat{Kind: kind, N: number}
			for _, n := range ints {
				wantHolds(t, []api.Caveat{c}, n, n, uint64(n), false)
				wantHolds(t, []api.Caveat{c}, 0, int(number&0x7fffffff), 0, false)
			}
			wantHolds(t, []api.Caveat{{Kind: api.OnTree, N: 3}, c}, 1, 3, 1, false)
			wantHolds(t, []api.Caveat{c, {Kind: api.OnTree, N: 3}}, 1, 3, 1, false)
		}
	}
}

// TestHoldsByCaveatsAlone: P12.2, Id and Tag count for nothing.
func TestHoldsByCaveatsAlone(t *testing.T) {
	rnd := rand.New(rand.NewSource(130))
	met := map[bool]int{}
	for range 3000 {
		l := someCaveats(rnd, rnd.Intn(6))
		op, tree, clock := pick(rnd, ints), pick(rnd, ints), pick(rnd, clocks)
		if len(l) > 0 && rnd.Intn(2) == 0 {
			tree, op, clock = int(l[0].N&0x7fffffff), int(l[0].N&0x7fffffff)-1, uint64(l[0].N)-1
		}
		want := wantedHolds(l, op, tree, clock)
		met[want]++
		x := api.Token{Id: rnd.Uint32(), Caveats: l, Tag: someDigest(rnd)}
		if token.Holds(x, op, tree, clock) != want || token.Holds(api.Token{Caveats: l}, op, tree, clock) != want {
			t.Fatalf("%+v: Holds(%d, %d, %d): %v", x, op, tree, clock, !want)
		}
	}
	if met[true] < 200 || met[false] < 200 {
		t.Errorf("%v: the test tells too little", met)
	}
}
