package compact_test

import (
	"fmt"
	"math/rand"
	"testing"

	"deponent/api"
	"deponent/compact"
)

func oneAt(at uint64, leaf api.Digest) compact.Range {
	return compact.Range{Begin: at, End: at + 1, Hashes: []api.Digest{leaf}}
}

// TestAdd: P10.3, one leaf more makes the hashes that the blocks of the greater range have; whatever the hashes are, those of blocks that stay are left as they are.
func TestAdd(t *testing.T) {
	rnd := rand.New(rand.NewSource(104))
	add := func(w int, begin, end uint64) {
		t.Helper()
		r, leaf := someRange(rnd, begin, end), someDigest(rnd)
		got, why := compact.Add(w, r, leaf)
		wantRange(t, fmt.Sprintf("width %d, Add to %d to %d", w, begin, end), got, why, wantedBoth(t, w, r, oneAt(end, leaf)))
	}
	for begin := range uint64(40) {
		for end := begin; end < 70; end++ {
			add(widths[int(begin+end)%len(widths)], begin, end)
		}
	}
	for _, begin := range nearEnds() {
		for _, end := range nearEnds() {
			if begin > end || end == last {
				continue
			}
			for _, w := range widths {
				add(w, begin, end)
			}
		}
	}
	for range 2000 {
		begin, end := rnd.Uint64()%last, rnd.Uint64()%last
		add(widths[rnd.Intn(len(widths))], min(begin, end), max(begin, end))
	}
}

// TestAddWrittenOut: P10.3, some Adds, written out.
func TestAddWrittenOut(t *testing.T) {
	rnd := rand.New(rand.NewSource(105))
	for _, w := range widths {
		a, b, c, d := someDigest(rnd), someDigest(rnd), someDigest(rnd), someDigest(rnd)
		node := func(x, y api.Digest) api.Digest { return hashedNode(w, x, y) }
		for _, x := range []struct {
			begin, end uint64
			hashes     []api.Digest
			want       []api.Digest
		}{
			{0, 0, nil, []api.Digest{d}}, {7, 7, nil, []api.Digest{d}}, {last - 1, last - 1, nil, []api.Digest{d}},
			{0, 1, []api.Digest{c}, []api.Digest{node(c, d)}}, {1, 2, []api.Digest{c}, []api.Digest{c, d}},
			{0, 2, []api.Digest{c}, []api.Digest{c, d}}, {0, 3, []api.Digest{b, c}, []api.Digest{node(b, node(c, d))}},
			{1, 3, []api.Digest{b, c}, []api.Digest{b, node(c, d)}}, {2, 3, []api.Digest{c}, []api.Digest{node(c, d)}},
			{0, 7, []api.Digest{a, b, c}, []api.Digest{node(a, node(b, node(c, d)))}}, {2, 7, []api.Digest{a, b, c}, []api.Digest{a, node(b, node(c, d))}},
			{3, 7, []api.Digest{a, b, c}, []api.Digest{a, node(b, node(c, d))}}, {last - 4, last - 1, []api.Digest{b, c}, []api.Digest{node(b, node(c, d))}},
			{last - 3, last - 1, []api.Digest{b, c}, []api.Digest{b, node(c, d)}}, {last - 2, last - 1, []api.Digest{c}, []api.Digest{node(c, d)}},
		} {
			got, why := compact.Add(w, compact.Range{Begin: x.begin, End: x.end, Hashes: x.hashes}, d)
			wantRange(t, fmt.Sprintf("width %d, Add to %d to %d", w, x.begin, x.end), got, why, compact.Range{Begin: x.begin, End: x.end + 1, Hashes: x.want})
		}
	}
}

// TestAddUpToTheEnd: P10.3, leaves are added one by one up to 2^32, and none behind it.
func TestAddUpToTheEnd(t *testing.T) {
	rnd := rand.New(rand.NewSource(106))
	for _, n := range []uint64{0, 1, 2, 3, 63, 64, 65, 300} {
		r := compact.Empty(last - n)
		leaves := []compact.Range{r}
		for r.End < last {
			leaf := someDigest(rnd)
			leaves = append(leaves, oneAt(r.End, leaf))
			var why api.Errno
			r, why = compact.Add(32, r, leaf)
			wantRange(t, fmt.Sprintf("Add up to %d", r.End), r, why, wantedBoth(t, 32, leaves...))
		}
		got, why := compact.Add(32, r, someDigest(rnd))
		wantRefused(t, "Add at 2^32", got, why, api.ErrArg)
	}
}

// TestAddRefuses: P10.3, a range that is not right, or that ends at 2^32, is ErrArg.
func TestAddRefuses(t *testing.T) {
	rnd := rand.New(rand.NewSource(107))
	for i, r := range wrongRanges(rnd) {
		w := widths[i%len(widths)]
		got, why := compact.Add(w, r, someDigest(rnd))
		wantRefused(t, fmt.Sprintf("width %d, Add to %d to %d, %d hashes", w, r.Begin, r.End, len(r.Hashes)), got, why, api.ErrArg)
	}
	for _, w := range widths {
		for _, begin := range nearEnds() {
			got, why := compact.Add(w, someRange(rnd, begin, last), someDigest(rnd))
			wantRefused(t, fmt.Sprintf("width %d, Add to %d to 2^32", w, begin), got, why, api.ErrArg)
		}
	}
}
