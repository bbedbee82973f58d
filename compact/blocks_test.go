package compact_test

import (
	"math/rand"
	"slices"
	"testing"

	"deponent/compact"
)

// blocksByWords goes by the words of the chapter, from the smallest power of two up.
func blocksByWords(begin, end uint64) []uint64 {
	var sizes []uint64
	for at := begin; at < end && end <= last; {
		greatest := uint64(0)
		for k := range 64 {
			if power := uint64(1) << k; at%power == 0 && at+power > at && at+power <= end {
				greatest = power
			}
		}
		sizes = append(sizes, greatest)
		at += greatest
	}
	return sizes
}

// powers answers the powers of two from 2^low to 2^high, downwards if low is above high.
func powers(low, high int) []uint64 {
	if low > high {
		l := powers(high, low)
		slices.Reverse(l)
		return l
	}
	var l []uint64
	for k := low; k <= high; k++ {
		l = append(l, 1<<k)
	}
	return l
}

func wantBlocks(t *testing.T, begin, end uint64) {
	t.Helper()
	got := compact.Blocks(begin, end)
	if want := wantedBlocks(begin, end); !slices.Equal(got, want) {
		t.Fatalf("Blocks(%d, %d): %v, not %v", begin, end, got, want)
	}
	if want := blocksByWords(begin, end); !slices.Equal(got, want) {
		t.Fatalf("Blocks(%d, %d): %v, by the words %v", begin, end, got, want)
	}
}

// TestBlocksWrittenOut: P10.1, blocks of ranges from 0 and from elsewhere, written out.
func TestBlocksWrittenOut(t *testing.T) {
	for _, c := range []struct {
		begin, end uint64
		want       []uint64
	}{
		{0, 1, []uint64{1}}, {0, 2, []uint64{2}}, {0, 3, []uint64{2, 1}}, {0, 4, []uint64{4}}, {0, 8, []uint64{8}}, {0, 9, []uint64{8, 1}},
		{1, 2, []uint64{1}}, {1, 3, []uint64{1, 1}}, {1, 4, []uint64{1, 2}}, {1, 5, []uint64{1, 2, 1}}, {1, 8, []uint64{1, 2, 4}},
		{2, 3, []uint64{1}}, {2, 4, []uint64{2}}, {2, 5, []uint64{2, 1}}, {2, 6, []uint64{2, 2}}, {2, 8, []uint64{2, 4}},
		{3, 4, []uint64{1}}, {3, 5, []uint64{1, 1}}, {3, 13, []uint64{1, 4, 4, 1}}, {4, 7, []uint64{2, 1}}, {4, 12, []uint64{4, 4}},
		{6, 10, []uint64{2, 2}}, {5, 11, []uint64{1, 2, 2, 1}}, {8, 16, []uint64{8}}, {8, 24, []uint64{8, 8}}, {12, 16, []uint64{4}},
		{0, last, []uint64{last}}, {0, last - 1, powers(31, 0)}, {1, last, powers(0, 31)}, {1, last - 1, slices.Concat(powers(0, 30), powers(30, 0))},
		{last - 1, last, []uint64{1}}, {last - 2, last, []uint64{2}}, {last - 3, last, []uint64{1, 2}}, {last - 3, last - 1, []uint64{1, 1}},
		{1 << 31, last, []uint64{1 << 31}}, {1<<31 - 1, last, []uint64{1, 1 << 31}}, {1<<31 - 1, 1<<31 + 1, []uint64{1, 1}}, {0, 1<<31 + 1, []uint64{1 << 31, 1}},
	} {
		if got := compact.Blocks(c.begin, c.end); !slices.Equal(got, c.want) {
			t.Errorf("Blocks(%d, %d): %v, not %v", c.begin, c.end, got, c.want)
		}
	}
}

// TestNoBlocks: P10.1, there are none, if begin is not below end, or end is above 2^32.
func TestNoBlocks(t *testing.T) {
	for _, begin := range ends {
		for _, end := range ends {
			got := compact.Blocks(begin, end)
			if none := begin >= end || end > last; none != (len(got) == 0) {
				t.Errorf("Blocks(%d, %d): %v", begin, end, got)
			}
		}
	}
}

// TestBlocks: P10.1, the blocks are those that the halving of all places leaves, and those of the words: of all small ranges, of those about the edges, and of some others.
func TestBlocks(t *testing.T) {
	for begin := range uint64(140) {
		for end := range uint64(140) {
			wantBlocks(t, begin, end)
		}
	}
	for _, begin := range ends {
		for _, end := range ends {
			wantBlocks(t, begin, end)
		}
	}
	r := rand.New(rand.NewSource(102))
	for range 5000 {
		begin, end := r.Uint64()%(last+1), r.Uint64()%(last+1)
		wantBlocks(t, begin, end)
		wantBlocks(t, begin>>r.Intn(32), end>>r.Intn(32))
		wantBlocks(t, begin, begin+r.Uint64()%300)
		wantBlocks(t, r.Uint64(), r.Uint64())
	}
}

// TestBlocksFillTheRange: P10.1, blocks follow one another from begin to end, each a power of two that divides its place.
func TestBlocksFillTheRange(t *testing.T) {
	for _, begin := range nearEnds() {
		for _, end := range nearEnds() {
			if begin >= end {
				continue
			}
			at := begin
			for i, size := range compact.Blocks(begin, end) {
				if size == 0 || size&(size-1) != 0 || at%size != 0 {
					t.Fatalf("from %d to %d: block %d of %d leaves at %d", begin, end, i, size, at)
				}
				at += size
			}
			if at != end {
				t.Errorf("from %d to %d: the blocks end at %d", begin, end, at)
			}
		}
	}
}
