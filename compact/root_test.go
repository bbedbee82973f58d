package compact_test

import (
	"fmt"
	"math/rand"
	"testing"

	"deponent/api"
	"deponent/compact"
)

// foldedRoot is the hash of the first of hashes and of what comes of the others.
func foldedRoot(width int, hashes []api.Digest) api.Digest {
	if len(hashes) == 1 {
		return hashes[0]
	}
	return hashedNode(width, hashes[0], foldedRoot(width, hashes[1:]))
}

// TestRoot: P10.3, the hashes are put together from the last one on, whatever they are.
func TestRoot(t *testing.T) {
	rnd := rand.New(rand.NewSource(113))
	root := func(w int, end uint64) {
		t.Helper()
		r := someRange(rnd, 0, end)
		if d, why := compact.Root(w, r); d != foldedRoot(w, r.Hashes) || why != api.OK {
			t.Fatalf("width %d, Root of %d: %x, %v", w, end, d, why)
		}
	}
	for _, w := range widths {
		for end := uint64(1); end < 300; end++ {
			root(w, end)
		}
		for _, end := range nearEnds()[1:] {
			root(w, end)
		}
		for range 200 {
			root(w, 1+rnd.Uint64()%last)
		}
	}
}

// TestRootWrittenOut: P10.3, some Roots, written out; of one hash it is that one.
func TestRootWrittenOut(t *testing.T) {
	rnd := rand.New(rand.NewSource(114))
	for _, w := range widths {
		a, b, c := someDigest(rnd), someDigest(rnd), someDigest(rnd)
		for _, x := range []struct {
			end    uint64
			hashes []api.Digest
			want   api.Digest
		}{
			{1, []api.Digest{a}, a}, {2, []api.Digest{a}, a}, {1 << 31, []api.Digest{a}, a}, {last, []api.Digest{a}, a},
			{3, []api.Digest{a, b}, hashedNode(w, a, b)}, {last - 1<<30, []api.Digest{a, b}, hashedNode(w, a, b)},
			{7, []api.Digest{a, b, c}, hashedNode(w, a, hashedNode(w, b, c))},
		} {
			if d, why := compact.Root(w, compact.Range{End: x.end, Hashes: x.hashes}); d != x.want || why != api.OK {
				t.Errorf("width %d, Root of %d: %x, %v, not %x", w, x.end, d, why, x.want)
			}
		}
	}
}

// TestRootOfNone: P10.3, of no leaves at 0 it is the hash of nothing, be the hashes nil or empty.
func TestRootOfNone(t *testing.T) {
	for _, w := range widths {
		for _, none := range [][]api.Digest{nil, {}, make([]api.Digest, 3)[:0]} {
			if d, why := compact.Root(w, compact.Range{Hashes: none}); d != hashed(w) || why != api.OK {
				t.Errorf("width %d: %x, %v", w, d, why)
			}
		}
	}
}

func wantNoRoot(t *testing.T, w int, r compact.Range, want api.Errno) {
	t.Helper()
	if d, why := compact.Root(w, r); d != (api.Digest{}) || why != want {
		t.Fatalf("%s: %x, %v, not %v", fmt.Sprintf("width %d, Root of %d to %d, %d hashes", w, r.Begin, r.End, len(r.Hashes)), d, why, want)
	}
}

// TestRootFromElsewhere: P10.3, a right range that does not begin at 0 is ErrRange, empty or not.
func TestRootFromElsewhere(t *testing.T) {
	rnd := rand.New(rand.NewSource(115))
	for _, w := range widths {
		for _, begin := range nearEnds()[1:] {
			wantNoRoot(t, w, compact.Empty(begin), api.ErrRange)
			for _, end := range nearEnds() {
				if begin <= end {
					wantNoRoot(t, w, someRange(rnd, begin, end), api.ErrRange)
				}
			}
		}
	}
}

// TestRootRefuses: P10.3, a range that is not right is ErrArg, wherever it begins.
func TestRootRefuses(t *testing.T) {
	for i, r := range wrongRanges(rand.New(rand.NewSource(116))) {
		wantNoRoot(t, widths[i%len(widths)], r, api.ErrArg)
	}
	for _, at := range []uint64{last + 1, 1 << 63, 1<<64 - 1} {
		wantNoRoot(t, 32, compact.Empty(at), api.ErrArg)
	}
}
