package compact_test

import (
	"fmt"
	"math"
	"math/rand"
	"testing"

	"deponent/api"
	"deponent/compact"
	"deponent/merkle"
)

// TestEmpty: P10.2, Empty is at its place, whichever it is, and has no hashes.
func TestEmpty(t *testing.T) {
	for _, at := range ends {
		if r := compact.Empty(at); r.Begin != at || r.End != at || len(r.Hashes) != 0 {
			t.Errorf("Empty(%d): %v", at, r)
		}
	}
}

// TestOf: P10.2, the hashes are those of the blocks' leaves, of ranges of lists with each number of leaves.
func TestOf(t *testing.T) {
	r := rand.New(rand.NewSource(103))
	for _, n := range numbers() {
		for i, l := range [][][]byte{listOf(n), mixedOf(r, n)} {
			for _, begin := range placesTo(n) {
				for _, end := range placesTo(n) {
					if begin > end {
						continue
					}
					w := []int{32, 2, 1, 0}[(int(begin+end)+i)%4]
					got, why := compact.Of(w, l, begin, end)
					wantRange(t, fmt.Sprintf("width %d, Of %d from %d to %d", w, n, begin, end), got, why, wantedOf(t, w, l, begin, end))
				}
			}
		}
	}
}

// TestOfAtEachWidth: P10.2, each hash is cut to the width that counts, and is merkle.Root of its block.
func TestOfAtEachWidth(t *testing.T) {
	l := listOf(13)
	for w := -2; w < 36; w++ {
		for _, w := range []int{w, w + 1<<32, w - 1<<32, math.MaxInt - 36 + w, math.MinInt + 2 + w} {
			for begin := range uint64(14) {
				for end := begin; end <= 13; end++ {
					got, why := compact.Of(w, l, begin, end)
					wantRange(t, fmt.Sprintf("width %d, from %d to %d", w, begin, end), got, why, wantedOf(t, w, l, begin, end))
					for i, p := range wantedParts(begin, end) {
						if got.Hashes[i] != merkle.Root(w, l[p.at:p.at+p.size]) {
							t.Fatalf("width %d, from %d to %d: hash %d is no Root", w, begin, end, i)
						}
					}
				}
			}
		}
	}
}

// TestOfNothing: P10.2, where begin is end there are no hashes, at the end of the leaves too.
func TestOfNothing(t *testing.T) {
	for _, w := range widths {
		for _, n := range numbers() {
			for _, at := range placesTo(n) {
				got, why := compact.Of(w, listOf(n), at, at)
				wantRange(t, fmt.Sprintf("width %d, Of %d at %d", w, n, at), got, why, compact.Empty(at))
			}
		}
	}
}

// TestOfRefuses: P10.2, a range that is turned round, or that ends past the leaves, be there room behind them or not, is ErrRange.
func TestOfRefuses(t *testing.T) {
	refuse := func(w int, l [][]byte, begin, end uint64) {
		t.Helper()
		got, why := compact.Of(w, l, begin, end)
		wantRefused(t, fmt.Sprintf("width %d, Of %d from %d to %d", w, len(l), begin, end), got, why, api.ErrRange)
	}
	for _, w := range widths {
		for _, n := range numbers() {
			l := listOf(n + 3)[:n]
			for _, begin := range append(placesTo(n+3), ends...) {
				for _, end := range ends {
					if begin > end || end > uint64(n) {
						refuse(w, l, begin, end)
					}
				}
				refuse(w, l, begin, uint64(n)+1)
				refuse(w, l, begin, uint64(n)+2)
				if begin > 0 {
					refuse(w, l, begin, begin-1)
				}
			}
		}
		for _, l := range [][][]byte{nil, {}, listOf(5)[:0], listOf(5)[5:]} {
			refuse(w, l, 0, 1)
			refuse(w, l, 1, 0)
			refuse(w, l, 1, 1)
			refuse(w, l, math.MaxUint64, math.MaxUint64)
		}
	}
}
