package merkle_test

import (
	"math"
	"math/rand"
	"slices"
	"testing"

	"deponent/api"
	"deponent/merkle"
)

// farIndices are past the end of each list, some of them such as look small or below 0 in a smaller kind.
var farIndices = []uint64{1 << 31, 1 << 32, 1<<32 + 1, 1 << 62, 1<<63 - 1, 1 << 63, 1<<63 + 1, math.MaxUint64 - 1, math.MaxUint64}

// wantedPath goes up from a leaf, and takes on each floor the one that stands beside, if there is one.
func wantedPath(all [][]api.Digest, index uint64) []api.Digest {
	var p []api.Digest
	for _, floor := range all {
		if beside := index ^ 1; beside < uint64(len(floor)) {
			p = append(p, floor[beside])
		}
		index /= 2
	}
	return p
}

// TestProveRuns: P8.2, the runs and the example of the chapter.
func TestProveRuns(t *testing.T) {
	l := listOf(3)
	one, two := merkle.Leaf(32, l[1]), merkle.Leaf(32, l[2])
	if p, why := merkle.Prove(32, l, 2); why != api.OK || !slices.Equal(p, []api.Digest{merkle.Root(32, l[:2])}) {
		t.Errorf("2 of three: %x, %v", p, why)
	}
	if p, why := merkle.Prove(32, l, 0); why != api.OK || !slices.Equal(p, []api.Digest{one, two}) {
		t.Errorf("0 of three: %x, %v", p, why)
	}
	for _, w := range edgeWidths {
		for _, b := range [][]byte{nil, {}, {0}, []byte("abc")} {
			if p, why := merkle.Prove(w, [][]byte{b}, 0); len(p) != 0 || why != api.OK {
				t.Errorf("width %d, the only one: %x, %v", w, p, why)
			}
		}
	}
}

// TestProveSmall: P8.2, paths of up to five leaves, written out.
func TestProveSmall(t *testing.T) {
	l := listOf(5)
	r := func(from, to int) api.Digest { return wantedRoot(32, l[from:to]) }
	for _, c := range []struct {
		n     int
		index uint64
		want  []api.Digest
	}{
		{2, 0, []api.Digest{r(1, 2)}}, {2, 1, []api.Digest{r(0, 1)}},
		{3, 0, []api.Digest{r(1, 2), r(2, 3)}}, {3, 1, []api.Digest{r(0, 1), r(2, 3)}}, {3, 2, []api.Digest{r(0, 2)}},
		{4, 0, []api.Digest{r(1, 2), r(2, 4)}}, {4, 1, []api.Digest{r(0, 1), r(2, 4)}},
		{4, 2, []api.Digest{r(3, 4), r(0, 2)}}, {4, 3, []api.Digest{r(2, 3), r(0, 2)}},
		{5, 0, []api.Digest{r(1, 2), r(2, 4), r(4, 5)}}, {5, 3, []api.Digest{r(2, 3), r(0, 2), r(4, 5)}}, {5, 4, []api.Digest{r(0, 4)}},
	} {
		if p, why := merkle.Prove(32, l[:c.n], c.index); why != api.OK || !slices.Equal(p, c.want) {
			t.Errorf("%d of %d: %x, %v", c.index, c.n, p, why)
		}
	}
}

// someOf answers all places below n, or, of many, the first ones, the last ones, and those about powers of two.
func someOf(n int) []uint64 {
	var l []uint64
	for i := range n {
		near := i < 4 || n-i < 4 || i%37 == 0
		for p := 4; p <= n; p *= 2 {
			near = near || i >= p-1 && i <= p+1
		}
		if n < 40 || near {
			l = append(l, uint64(i))
		}
	}
	return l
}

// TestProveOfEachNumber: P8.2, the path of each leaf is the one that is taken floor by floor.
func TestProveOfEachNumber(t *testing.T) {
	r := rand.New(rand.NewSource(87))
	for _, n := range numbers() {
		for _, l := range [][][]byte{listOf(n), mixedOf(r, n)} {
			for _, w := range []int{1, 32, 33} {
				all := floors(w, l)
				for _, index := range someOf(n) {
					p, why := merkle.Prove(w, l, index)
					if why != api.OK || !slices.Equal(p, wantedPath(all, index)) {
						t.Fatalf("width %d, %d of %d: %x, %v", w, index, n, p, why)
					}
				}
			}
		}
	}
}

// TestProveAtEachWidth: P8.2, each hash of a path is cut to the width that counts.
func TestProveAtEachWidth(t *testing.T) {
	for _, n := range []int{2, 3, 7, 12} {
		l := listOf(n)
		for _, w := range widths {
			all := floors(w, l)
			for index := range uint64(n) {
				p, why := merkle.Prove(w, l, index)
				if why != api.OK || !slices.Equal(p, wantedPath(all, index)) {
					t.Fatalf("width %d, %d of %d: %x, %v", w, index, n, p, why)
				}
				for _, d := range p {
					wantBehindWidth(t, "Prove", w, d)
				}
			}
		}
	}
}

// TestProveRefuses: P8.2, a leaf that is not there is ErrRange, and no path stands beside it.
func TestProveRefuses(t *testing.T) {
	for _, w := range edgeWidths {
		for _, n := range numbers() {
			l := listOf(n)
			for _, index := range append([]uint64{uint64(n), uint64(n) + 1, 2 * uint64(n), 1<<32 + uint64(n)}, farIndices...) {
				if p, why := merkle.Prove(w, l, index); len(p) != 0 || why != api.ErrRange {
					t.Errorf("width %d, %d of %d: %x, %v", w, index, n, p, why)
				}
			}
		}
		for _, l := range [][][]byte{nil, {}, listOf(5)[:0]} {
			for _, index := range []uint64{0, 1, 4, math.MaxUint64} {
				if p, why := merkle.Prove(w, l, index); len(p) != 0 || why != api.ErrRange {
					t.Errorf("width %d, %d of none: %x, %v", w, index, p, why)
				}
			}
		}
	}
}
