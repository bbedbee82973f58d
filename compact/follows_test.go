package compact_test

import (
	"fmt"
	"math/rand"
	"testing"

	"deponent/api"
	"deponent/compact"
	"deponent/merkle"
)

// someWidths are a narrow one, whose hashes meet, and wide ones.
var someWidths = []int{1, 0, 31, 32}

func mustOf(t *testing.T, w int, l [][]byte, begin, end uint64) compact.Range {
	t.Helper()
	r, why := compact.Of(w, l, begin, end)
	if why != api.OK {
		t.Fatalf("width %d, Of %d from %d to %d: %v", w, len(l), begin, end, why)
	}
	return r
}

// TestOfIsAdds: P10.4, leaves that are added to an empty range, one by one, make the Of of them at each step.
func TestOfIsAdds(t *testing.T) {
	l := mixedOf(rand.New(rand.NewSource(117)), 300)
	for i, begin := range placesTo(300) {
		w := someWidths[i%len(someWidths)]
		r := compact.Empty(begin)
		for end := begin; ; end++ {
			if want := mustOf(t, w, l, begin, end); !same(r, want) {
				t.Fatalf("width %d, from %d to %d: %v, not %v", w, begin, end, r, want)
			}
			if end == 300 {
				break
			}
			var why api.Errno
			if r, why = compact.Add(w, r, merkle.Leaf(w, l[end])); why != api.OK {
				t.Fatalf("width %d, Add to %d to %d: %v", w, begin, end, why)
			}
		}
	}
}

// TestOfIsMerged: P10.4, Merge of two Ofs is the Of of both, wherever they meet, the ends too.
func TestOfIsMerged(t *testing.T) {
	rnd := rand.New(rand.NewSource(118))
	for _, n := range []int{0, 1, 2, 3, 7, 8, 9, 20, 64, 129, 300} {
		l := mixedOf(rnd, n)
		w := someWidths[n%len(someWidths)]
		for _, begin := range placesTo(n) {
			for _, meet := range placesTo(n) {
				for _, end := range placesTo(n) {
					if begin > meet || meet > end {
						continue
					}
					got, why := compact.Merge(w, mustOf(t, w, l, begin, meet), mustOf(t, w, l, meet, end))
					wantRange(t, fmt.Sprintf("width %d, %d to %d to %d", w, begin, meet, end), got, why, mustOf(t, w, l, begin, end))
				}
			}
		}
	}
}

// TestMergedInAnyOrder: P10.4, of three Ofs it makes no difference which two are merged first.
func TestMergedInAnyOrder(t *testing.T) {
	rnd := rand.New(rand.NewSource(119))
	l := mixedOf(rnd, 200)
	for range 300 {
		at := []uint64{0, uint64(rnd.Intn(60)), uint64(60 + rnd.Intn(60)), uint64(120 + rnd.Intn(81))}
		w := someWidths[rnd.Intn(len(someWidths))]
		a, b, c := mustOf(t, w, l, at[0], at[1]), mustOf(t, w, l, at[1], at[2]), mustOf(t, w, l, at[2], at[3])
		ab, _ := compact.Merge(w, a, b)
		bc, _ := compact.Merge(w, b, c)
		left, why := compact.Merge(w, ab, c)
		right, because := compact.Merge(w, a, bc)
		wantRange(t, fmt.Sprintf("width %d, %v, the first two first", w, at), left, why, mustOf(t, w, l, at[0], at[3]))
		wantRange(t, fmt.Sprintf("width %d, %v, the last two first", w, at), right, because, left)
	}
}

// TestRootOfOf: P10.4, Root of Of from 0 is merkle.Root of these leaves, and the one that is reckoned by parting.
func TestRootOfOf(t *testing.T) {
	rnd := rand.New(rand.NewSource(120))
	for _, n := range numbers() {
		l := mixedOf(rnd, n)
		for _, w := range widths {
			d, why := compact.Root(w, mustOf(t, w, l, 0, uint64(n)))
			if why != api.OK || d != merkle.Root(w, l) || d != wantedRoot(w, l) {
				t.Fatalf("width %d, %d leaves: %x, %v", w, n, d, why)
			}
		}
	}
	l := listOf(300)
	for end := range uint64(301) {
		if d, why := compact.Root(3, mustOf(t, 3, l, 0, end)); why != api.OK || d != wantedRoot(3, l[:end]) {
			t.Fatalf("%d of 300 leaves: %x, %v", end, d, why)
		}
	}
}
