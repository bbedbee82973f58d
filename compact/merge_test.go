package compact_test

import (
	"fmt"
	"math/rand"
	"testing"

	"deponent/api"
	"deponent/compact"
)

func wantMerged(t *testing.T, w int, a, b compact.Range) {
	t.Helper()
	got, why := compact.Merge(w, a, b)
	wantRange(t, fmt.Sprintf("width %d, Merge of %d to %d to %d", w, a.Begin, a.End, b.End), got, why, wantedBoth(t, w, a, b))
}

// TestMerge: P10.3, two ranges that meet make the hashes that the blocks of both together have; whatever the hashes are, those of blocks that stay are left as they are.
func TestMerge(t *testing.T) {
	rnd := rand.New(rand.NewSource(108))
	for begin := range uint64(34) {
		for meet := begin; meet <= 34; meet++ {
			for end := meet; end <= 34; end++ {
				wantMerged(t, widths[int(begin+meet+end)%len(widths)], someRange(rnd, begin, meet), someRange(rnd, meet, end))
			}
		}
	}
	far := nearEnds()
	for i, begin := range far {
		for j, meet := range far[i:] {
			for k, end := range far[i+j:] {
				wantMerged(t, widths[(i+j+k)%len(widths)], someRange(rnd, begin, meet), someRange(rnd, meet, end))
			}
		}
	}
	for range 3000 {
		a, b, c := rnd.Uint64()%(last+1), rnd.Uint64()%(last+1), rnd.Uint64()%(last+1)
		begin, end := min(a, b, c), max(a, b, c)
		meet := max(min(a, b), min(max(a, b), c))
		wantMerged(t, widths[rnd.Intn(len(widths))], someRange(rnd, begin, meet), someRange(rnd, meet, end))
	}
}

// TestMergeWrittenOut: P10.3, some Merges, written out.
func TestMergeWrittenOut(t *testing.T) {
	rnd := rand.New(rand.NewSource(109))
	for _, w := range widths {
		a, b, c, d := someDigest(rnd), someDigest(rnd), someDigest(rnd), someDigest(rnd)
		node := func(x, y api.Digest) api.Digest { return hashedNode(w, x, y) }
		for _, x := range []struct {
			begin, meet, end uint64
			ahead, behind    []api.Digest
			want             []api.Digest
		}{
			{0, 1, 2, []api.Digest{a}, []api.Digest{b}, []api.Digest{node(a, b)}},
			{1, 2, 3, []api.Digest{a}, []api.Digest{b}, []api.Digest{a, b}},
			{0, 2, 4, []api.Digest{a}, []api.Digest{b}, []api.Digest{node(a, b)}},
			{2, 4, 6, []api.Digest{a}, []api.Digest{b}, []api.Digest{a, b}},
			{0, 1, 4, []api.Digest{a}, []api.Digest{b, c}, []api.Digest{node(node(a, b), c)}},
			{0, 3, 4, []api.Digest{a, b}, []api.Digest{c}, []api.Digest{node(a, node(b, c))}},
			{0, 5, 8, []api.Digest{a, b}, []api.Digest{c, d}, []api.Digest{node(a, node(node(b, c), d))}},
			{0, 3, 8, []api.Digest{a, b}, []api.Digest{c, d}, []api.Digest{node(node(a, node(b, c)), d)}},
			{3, 5, 7, []api.Digest{a, b}, []api.Digest{c, d}, []api.Digest{a, node(b, c), d}},
			{2, 5, 8, []api.Digest{a, b}, []api.Digest{c, d}, []api.Digest{a, node(node(b, c), d)}},
			{1, 4, 6, []api.Digest{a, b}, []api.Digest{c}, []api.Digest{a, b, c}},
			{0, 1 << 31, last, []api.Digest{a}, []api.Digest{b}, []api.Digest{node(a, b)}},
			{1 << 30, 1 << 31, last, []api.Digest{a}, []api.Digest{b}, []api.Digest{a, b}},
			{last - 2, last - 1, last, []api.Digest{a}, []api.Digest{b}, []api.Digest{node(a, b)}},
		} {
			got, why := compact.Merge(w, compact.Range{Begin: x.begin, End: x.meet, Hashes: x.ahead}, compact.Range{Begin: x.meet, End: x.end, Hashes: x.behind})
			wantRange(t, fmt.Sprintf("width %d, Merge of %d to %d to %d", w, x.begin, x.meet, x.end), got, why, compact.Range{Begin: x.begin, End: x.end, Hashes: x.want})
		}
	}
}

// TestMergeOfEmpty: P10.3, an empty range, ahead or behind, changes nothing, be its hashes nil or empty.
func TestMergeOfEmpty(t *testing.T) {
	rnd := rand.New(rand.NewSource(110))
	for _, w := range widths {
		for _, begin := range nearEnds() {
			for _, end := range nearEnds() {
				if begin > end {
					continue
				}
				r := someRange(rnd, begin, end)
				for _, none := range [][]api.Digest{nil, {}, someDigests(rnd, 2)[:0]} {
					got, why := compact.Merge(w, compact.Range{Begin: begin, End: begin, Hashes: none}, r)
					wantRange(t, fmt.Sprintf("width %d, %d to %d behind none", w, begin, end), got, why, r)
					got, why = compact.Merge(w, r, compact.Range{Begin: end, End: end, Hashes: none})
					wantRange(t, fmt.Sprintf("width %d, %d to %d ahead of none", w, begin, end), got, why, r)
				}
			}
		}
	}
}

// TestMergeApart: P10.3, right ranges of which the second one does not begin where the first one ends are ErrRange.
func TestMergeApart(t *testing.T) {
	rnd := rand.New(rand.NewSource(111))
	var all []compact.Range
	for _, begin := range []uint64{0, 1, 2, 3, 8, 1 << 31, last - 1, last} {
		for _, end := range []uint64{0, 1, 2, 3, 4, 8, 9, 1 << 31, last - 1, last} {
			if begin <= end {
				all = append(all, someRange(rnd, begin, end))
			}
		}
	}
	for i, a := range all {
		for j, b := range all {
			if a.End == b.Begin {
				continue
			}
			w := widths[(i+j)%len(widths)]
			got, why := compact.Merge(w, a, b)
			wantRefused(t, fmt.Sprintf("width %d, Merge of %d to %d and %d to %d", w, a.Begin, a.End, b.Begin, b.End), got, why, api.ErrRange)
		}
	}
}

// TestMergeRefuses: P10.3, if one is not right, or both, it is ErrArg, whether they meet or not.
func TestMergeRefuses(t *testing.T) {
	rnd := rand.New(rand.NewSource(112))
	wrong := wrongRanges(rnd)
	refuse := func(w int, a, b compact.Range) {
		t.Helper()
		got, why := compact.Merge(w, a, b)
		wantRefused(t, fmt.Sprintf("width %d, Merge of %d to %d, %d hashes, and %d to %d, %d hashes", w, a.Begin, a.End, len(a.Hashes), b.Begin, b.End, len(b.Hashes)), got, why, api.ErrArg)
	}
	for i, r := range wrong {
		w := widths[i%len(widths)]
		for _, other := range []compact.Range{compact.Empty(0), compact.Empty(r.Begin), compact.Empty(r.End), someRange(rnd, 0, min(r.Begin, last)), someRange(rnd, min(r.End, last), last), wrong[rnd.Intn(len(wrong))], r} {
			refuse(w, r, other)
			refuse(w, other, r)
		}
	}
}
