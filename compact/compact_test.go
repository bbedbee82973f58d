package compact_test

import (
	"crypto/sha256"
	"fmt"
	"math"
	"math/rand"
	"slices"
	"testing"

	"deponent/api"
	"deponent/compact"
	"deponent/merkle"
)

const last = 1 << 32 // where the last range ends

// widths are those at which something changes.
var widths = []int{math.MinInt, -1, 0, 1, 2, 31, 32, 33, math.MaxInt}

// ends are places about which something changes, in order, from the first one to the end of their kind.
var ends = []uint64{
	0, 1, 2, 3, 4, 5, 6, 7, 8, 9, 15, 16, 17, 31, 32, 33, 100, 255, 256, 257, 300,
	1<<16 - 1, 1 << 16, 1<<16 + 1, 0x55555555, 1<<31 - 1, 1 << 31, 1<<31 + 1, 0xaaaaaaaa, 1<<31 + 1<<30,
	last - 3, last - 2, last - 1, last, last + 1, last + 2, 1 << 33, 1<<40 + 5,
	1<<63 - 1, 1 << 63, 1<<63 + 1, math.MaxUint64 - 1, math.MaxUint64,
}

// nearEnds are those of ends at which a range may end.
func nearEnds() []uint64 {
	return slices.DeleteFunc(slices.Clone(ends), func(at uint64) bool { return at > last })
}

// counting says which width a width counts as.
func counting(width int) int {
	switch {
	case width <= 0, width >= 33:
		return 32
	}
	return width
}

// hashed is the library's SHA-256 of texts, one behind the other, with noughts behind the width.
func hashed(width int, texts ...[]byte) api.Digest {
	whole := sha256.Sum256(slices.Concat(texts...))
	var d api.Digest
	copy(d[:], whole[:counting(width)])
	return d
}

func hashedLeaf(width int, b []byte) api.Digest { return hashed(width, []byte{0}, b) }

func hashedNode(width int, a, b api.Digest) api.Digest {
	n := counting(width)
	return hashed(width, []byte{1}, a[:n], b[:n])
}

// part is size leaves from a place on.
type part struct{ at, size uint64 }

// wantedParts tells blocks in another way than the chapter does: from the whole of 2^32 places down, what lies in the range is one, what lies outside of it none, and what lies across is halved.
func wantedParts(begin, end uint64) []part {
	if begin >= end || end > last {
		return nil
	}
	var halved func(p part) []part
	halved = func(p part) []part {
		switch {
		case p.at+p.size <= begin || end <= p.at:
			return nil
		case begin <= p.at && p.at+p.size <= end:
			return []part{p}
		}
		half := p.size / 2
		return append(halved(part{p.at, half}), halved(part{p.at + half, half})...)
	}
	return halved(part{0, last})
}

func wantedBlocks(begin, end uint64) []uint64 {
	var sizes []uint64
	for _, p := range wantedParts(begin, end) {
		sizes = append(sizes, p.size)
	}
	return sizes
}

// isRight goes by the words of the chapter.
func isRight(r compact.Range) bool {
	return r.Begin <= r.End && r.End <= last && len(r.Hashes) == len(wantedParts(r.Begin, r.End))
}

// wantedRange tells a range from its blocks down: known has the hashes of some parts, and others are the hashes of their halves.
func wantedRange(t *testing.T, width int, begin, end uint64, known func(p part) (api.Digest, bool)) compact.Range {
	t.Helper()
	var hashOf func(p part) api.Digest
	hashOf = func(p part) api.Digest {
		if d, ok := known(p); ok {
			return d
		}
		if p.size < 2 {
			t.Fatalf("from %d to %d: no hash of the leaf at %d is known", begin, end, p.at)
		}
		half := p.size / 2
		return hashedNode(width, hashOf(part{p.at, half}), hashOf(part{p.at + half, half}))
	}
	r := compact.Range{Begin: begin, End: end}
	for _, p := range wantedParts(begin, end) {
		r.Hashes = append(r.Hashes, hashOf(p))
	}
	return r
}

// wantedOf is the range of leaves of a list.
func wantedOf(t *testing.T, width int, l [][]byte, begin, end uint64) compact.Range {
	t.Helper()
	return wantedRange(t, width, begin, end, func(p part) (api.Digest, bool) {
		if p.size > 1 {
			return api.Digest{}, false
		}
		return hashedLeaf(width, l[p.at]), true
	})
}

// wantedBoth is the range of several ones that follow one another.
func wantedBoth(t *testing.T, width int, l ...compact.Range) compact.Range {
	t.Helper()
	all := map[part]api.Digest{}
	for _, r := range l {
		for i, p := range wantedParts(r.Begin, r.End) {
			all[p] = r.Hashes[i]
		}
	}
	return wantedRange(t, width, l[0].Begin, l[len(l)-1].End, func(p part) (api.Digest, bool) {
		d, ok := all[p]
		return d, ok
	})
}

// wantedRoot parts a list as chapter 8 does.
func wantedRoot(width int, l [][]byte) api.Digest {
	switch len(l) {
	case 0:
		return hashed(width)
	case 1:
		return hashedLeaf(width, l[0])
	}
	k := 1
	for 2*k < len(l) {
		k *= 2
	}
	return hashedNode(width, wantedRoot(width, l[:k]), wantedRoot(width, l[k:]))
}

// same holds two ranges against each other; no hashes are as good as nil.
func same(a, b compact.Range) bool {
	return a.Begin == b.Begin && a.End == b.End && slices.Equal(a.Hashes, b.Hashes)
}

func clone(r compact.Range) compact.Range {
	r.Hashes = slices.Clone(r.Hashes)
	return r
}

// someDigest has a byte other than 0 at each place, those behind every width too.
func someDigest(r *rand.Rand) api.Digest {
	var d api.Digest
	for i := range d {
		d[i] = byte(1 + r.Intn(255))
	}
	return d
}

func someDigests(r *rand.Rand, n int) []api.Digest {
	var l []api.Digest
	for range n {
		l = append(l, someDigest(r))
	}
	return l
}

// someRange is a right one with hashes of its own.
func someRange(r *rand.Rand, begin, end uint64) compact.Range {
	return compact.Range{Begin: begin, End: end, Hashes: someDigests(r, len(wantedParts(begin, end)))}
}

// wrongRanges are not right, each in one way or in several.
func wrongRanges(r *rand.Rand) []compact.Range {
	var l []compact.Range
	for _, begin := range ends {
		for _, end := range ends {
			n := len(wantedParts(begin, end))
			for _, hashes := range [][]api.Digest{nil, {}, someDigests(r, 1), someDigests(r, n), someDigests(r, max(n-1, 0)), someDigests(r, n+1), someDigests(r, 2*n+7)} {
				if x := (compact.Range{Begin: begin, End: end, Hashes: hashes}); !isRight(x) {
					l = append(l, x)
				}
			}
		}
	}
	return l
}

// listOf answers n unlike leaves.
func listOf(n int) [][]byte {
	var l [][]byte
	for i := range n {
		l = append(l, fmt.Append(nil, "leaf ", i))
	}
	return l
}

// mixedOf answers n leaves of many lengths, of which some are nil, some empty, and some alike.
func mixedOf(r *rand.Rand, n int) [][]byte {
	l := make([][]byte, n)
	for i := range l {
		switch r.Intn(4) {
		case 0:
		case 1:
			l[i] = []byte{}
		case 2:
			l[i] = make([]byte, 1+r.Intn(api.MaxLeaf))
			r.Read(l[i])
		case 3:
			l[i] = l[r.Intn(i+1)]
		}
	}
	return l
}

// numbers are how many leaves lists have: all small ones, those about powers of two, some hundreds.
func numbers() []int {
	var l []int
	for n := range 20 {
		l = append(l, n)
	}
	return append(l, 31, 32, 33, 63, 64, 65, 127, 128, 129, 255, 256, 257, 300, 511, 512, 513, 777)
}

// placesTo answers all places from 0 to n, if there are not many, else some, the first and the last ones among them, and those about powers of two.
func placesTo(n int) []uint64 {
	var l []uint64
	for i := range n + 1 {
		if n < 20 || i < 4 || n-i < 4 || i%32 == 0 && i&(i-1) == 0 || i%97 == 1 {
			l = append(l, uint64(i))
		}
	}
	return l
}

func wantRange(t *testing.T, what string, got compact.Range, why api.Errno, want compact.Range) {
	t.Helper()
	if why != api.OK || !same(got, want) {
		t.Fatalf("%s: %v, %v, not %v", what, got, why, want)
	}
}

// wantRefused asks that nothing stands beside a refusal.
func wantRefused(t *testing.T, what string, got compact.Range, why, want api.Errno) {
	t.Helper()
	if why != want || !same(got, compact.Range{}) {
		t.Fatalf("%s: %v, %v, not %v", what, got, why, want)
	}
}

// TestRuns: the chapter's runs, at each width.
func TestRuns(t *testing.T) {
	for _, c := range []struct {
		begin, end uint64
		want       []uint64
	}{{0, 7, []uint64{4, 2, 1}}, {3, 10, []uint64{1, 4, 2}}, {5, 5, nil}} {
		if got := compact.Blocks(c.begin, c.end); !slices.Equal(got, c.want) {
			t.Errorf("Blocks(%d, %d): %v", c.begin, c.end, got)
		}
	}
	for _, w := range widths {
		if d, why := compact.Root(w, compact.Empty(0)); d != merkle.Root(w, nil) || d != hashed(w) || why != api.OK {
			t.Errorf("width %d: Root of Empty(0): %x, %v", w, d, why)
		}
		if d, why := compact.Root(w, compact.Empty(1)); d != (api.Digest{}) || why != api.ErrRange {
			t.Errorf("width %d: Root of Empty(1): %x, %v", w, d, why)
		}
	}
}

// TestExamples: the chapter's examples, at each width.
func TestExamples(t *testing.T) {
	rnd := rand.New(rand.NewSource(101))
	for _, w := range widths {
		r := someRange(rnd, 3, 10)
		got, why := compact.Merge(w, compact.Empty(3), r)
		wantRange(t, "Merge of an empty range and r", got, why, r)
		much := clone(r)
		much.Hashes = append(much.Hashes, someDigest(rnd))
		got, why = compact.Add(w, much, someDigest(rnd))
		wantRefused(t, "Add to a hash too much", got, why, api.ErrArg)
		got, why = compact.Merge(w, compact.Empty(3), much)
		wantRefused(t, "Merge with a hash too much", got, why, api.ErrArg)
		if d, why := compact.Root(w, compact.Range{End: 1, Hashes: someDigests(rnd, 2)}); d != (api.Digest{}) || why != api.ErrArg {
			t.Errorf("width %d: Root of a hash too much: %x, %v", w, d, why)
		}
		for _, l := range [][][]byte{nil, {}, listOf(5)} {
			got, why = compact.Of(w, l, 0, 0)
			wantRange(t, "Of from 0 to 0", got, why, compact.Empty(0))
		}
	}
}
