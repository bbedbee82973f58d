package merkle_test

import (
	"math"
	"math/bits"
	"math/rand"
	"slices"
	"testing"

	"deponent/api"
	"deponent/merkle"
)

// wantedGrowth goes up from the last whole part of the first from leaves: as high as that part goes, it is told itself (unless it is all of them), and on each floor from there on the one that stands beside.
func wantedGrowth(all [][]api.Digest, from uint64) []api.Digest {
	if from == uint64(len(all[0])) {
		return nil
	}
	high := bits.TrailingZeros64(from)
	at := from>>high - 1
	var p []api.Digest
	if at > 0 {
		p = append(p, all[high][at])
	}
	return append(p, wantedPath(all[high:], at)...)
}

// TestCompareRuns: P8.3, the runs and the example of the chapter.
func TestCompareRuns(t *testing.T) {
	l := listOf(3)
	if p, why := merkle.Compare(32, l, 2); why != api.OK || !slices.Equal(p, []api.Digest{merkle.Leaf(32, l[2])}) {
		t.Errorf("three from 2: %x, %v", p, why)
	}
	if p, why := merkle.Compare(32, l, 3); len(p) != 0 || why != api.OK {
		t.Errorf("three from 3: %x, %v", p, why)
	}
	if p, why := merkle.Compare(32, l, 0); len(p) != 0 || why != api.ErrRange {
		t.Errorf("three from 0: %x, %v", p, why)
	}
	for _, w := range edgeWidths {
		if p, why := merkle.Compare(w, listOf(7), 3); len(p) != 4 || why != api.OK {
			t.Errorf("width %d: seven from 3: %x, %v", w, p, why)
		}
	}
}

// TestCompareSmall: P8.3, the proofs that RFC 6962 tells of seven leaves, and others, written out.
func TestCompareSmall(t *testing.T) {
	l := listOf(8)
	r := func(from, to int) api.Digest { return wantedRoot(32, l[from:to]) }
	for _, c := range []struct {
		n    int
		from uint64
		want []api.Digest
	}{
		{1, 1, nil}, {2, 1, []api.Digest{r(1, 2)}}, {2, 2, nil},
		{3, 1, []api.Digest{r(1, 2), r(2, 3)}},
		{4, 1, []api.Digest{r(1, 2), r(2, 4)}}, {4, 2, []api.Digest{r(2, 4)}}, {4, 3, []api.Digest{r(2, 3), r(3, 4), r(0, 2)}},
		{5, 3, []api.Digest{r(2, 3), r(3, 4), r(0, 2), r(4, 5)}}, {5, 4, []api.Digest{r(4, 5)}},
		{6, 5, []api.Digest{r(4, 5), r(5, 6), r(0, 4)}},
		{7, 3, []api.Digest{r(2, 3), r(3, 4), r(0, 2), r(4, 7)}},
		{7, 4, []api.Digest{r(4, 7)}},
		{7, 5, []api.Digest{r(4, 5), r(5, 6), r(6, 7), r(0, 4)}},
		{7, 6, []api.Digest{r(4, 6), r(6, 7), r(0, 4)}},
		{8, 6, []api.Digest{r(4, 6), r(6, 8), r(0, 4)}}, {8, 7, []api.Digest{r(6, 7), r(7, 8), r(4, 6), r(0, 4)}}, {8, 8, nil},
	} {
		if p, why := merkle.Compare(32, l[:c.n], c.from); why != api.OK || !slices.Equal(p, c.want) {
			t.Errorf("%d from %d: %x, %v", c.n, c.from, p, why)
		}
	}
}

// TestCompareOfEachNumber: P8.3, the proof from each number of leaves to each other one is the one that is taken floor by floor.
func TestCompareOfEachNumber(t *testing.T) {
	r := rand.New(rand.NewSource(88))
	for _, n := range numbers() {
		for _, l := range [][][]byte{listOf(n), mixedOf(r, n)} {
			for _, w := range []int{1, 32, 33} {
				all := floors(w, l)
				for _, below := range someOf(n) {
					from := below + 1
					p, why := merkle.Compare(w, l, from)
					if why != api.OK || !slices.Equal(p, wantedGrowth(all, from)) {
						t.Fatalf("width %d, %d from %d: %x, %v", w, n, from, p, why)
					}
				}
			}
		}
	}
}

// TestCompareWithItself: P8.3, from all leaves there is nothing to show, be they a power of two or not.
func TestCompareWithItself(t *testing.T) {
	for _, n := range numbers()[1:] {
		for _, w := range edgeWidths {
			if p, why := merkle.Compare(w, listOf(n), uint64(n)); len(p) != 0 || why != api.OK {
				t.Errorf("width %d, %d leaves: %x, %v", w, n, p, why)
			}
		}
	}
}

// TestCompareAtEachWidth: P8.3, each hash of a proof is cut to the width that counts.
func TestCompareAtEachWidth(t *testing.T) {
	for _, n := range []int{2, 3, 7, 12} {
		l := listOf(n)
		for _, w := range widths {
			all := floors(w, l)
			for from := uint64(1); from <= uint64(n); from++ {
				p, why := merkle.Compare(w, l, from)
				if why != api.OK || !slices.Equal(p, wantedGrowth(all, from)) {
					t.Fatalf("width %d, %d from %d: %x, %v", w, n, from, p, why)
				}
				for _, d := range p {
					wantBehindWidth(t, "Compare", w, d)
				}
			}
		}
	}
}

// TestCompareRefuses: P8.3, from 0 and from more than there are is ErrRange, and no proof stands beside it.
func TestCompareRefuses(t *testing.T) {
	for _, w := range edgeWidths {
		for _, n := range numbers() {
			l := listOf(n)
			for _, from := range append([]uint64{0, uint64(n) + 1, uint64(n) + 2, 2*uint64(n) + 1, 1<<32 + uint64(n)}, farIndices...) {
				if p, why := merkle.Compare(w, l, from); len(p) != 0 || why != api.ErrRange {
					t.Errorf("width %d, %d from %d: %x, %v", w, n, from, p, why)
				}
			}
		}
		for _, l := range [][][]byte{nil, {}, listOf(5)[:0]} {
			for _, from := range []uint64{0, 1, 5, math.MaxUint64} {
				if p, why := merkle.Compare(w, l, from); len(p) != 0 || why != api.ErrRange {
					t.Errorf("width %d, none from %d: %x, %v", w, from, p, why)
				}
			}
		}
	}
}
