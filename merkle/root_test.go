package merkle_test

import (
	"math"
	"math/rand"
	"slices"
	"testing"

	"deponent/api"
	"deponent/merkle"
)

// numbers are all small numbers of leaves, those about powers of two, and some hundreds.
func numbers() []int {
	var l []int
	for n := range 70 {
		l = append(l, n)
	}
	return append(l, 100, 127, 128, 129, 130, 200, 255, 256, 257, 300, 511, 512, 513, 700)
}

// floors tells a tree in another way than the chapter does: from its leaves up, floor by floor. Two that stand side by side make one above them; one that is left over goes up as it is.
func floors(width int, l [][]byte) [][]api.Digest {
	var floor []api.Digest
	for _, b := range l {
		floor = append(floor, hashedLeaf(width, b))
	}
	all := [][]api.Digest{floor}
	for len(floor) > 1 {
		var next []api.Digest
		for pair := range slices.Chunk(floor, 2) {
			if len(pair) == 2 {
				next = append(next, hashedNode(width, pair[0], pair[1]))
			} else {
				next = append(next, pair[0])
			}
		}
		all = append(all, next)
		floor = next
	}
	return all
}

// topOf is the root of a tree of at least one leaf.
func topOf(all [][]api.Digest) api.Digest { return all[len(all)-1][0] }

func wantedRoot(width int, l [][]byte) api.Digest {
	if len(l) == 0 {
		return hashed(width, nil)
	}
	return topOf(floors(width, l))
}

// TestRootOfNone: P8.1, of no leaves Root is the cut hash of nothing.
func TestRootOfNone(t *testing.T) {
	want := digest(t, "e3b0c442 98fc1c14 9afbf4c8 996fb924 27ae41e4 649b934c a495991b 7852b855")
	for _, l := range [][][]byte{nil, {}, listOf(3)[:0], listOf(3)[3:]} {
		if got := merkle.Root(32, l); got != want {
			t.Errorf("Root of none: %x", got)
		}
		for _, w := range widths {
			cut := want
			for i := counting(w); i < 32; i++ {
				cut[i] = 0
			}
			if got := merkle.Root(w, l); got != cut {
				t.Errorf("width %d: Root of none: %x", w, got)
			}
		}
	}
}

// TestRootOfOne: P8.1, of one leaf Root is its Leaf.
func TestRootOfOne(t *testing.T) {
	for _, b := range texts(rand.New(rand.NewSource(85))) {
		for _, w := range edgeWidths {
			if got := merkle.Root(w, [][]byte{b}); got != hashedLeaf(w, b) {
				t.Errorf("width %d, %d bytes: %x", w, len(b), got)
			}
		}
	}
}

// TestKnownRoots: P8.1, eight leaves and their roots, as the tests of Certificate Transparency have them (written down from memory; the floors reckon the same).
func TestKnownRoots(t *testing.T) {
	l := [][]byte{
		{}, {0x00}, {0x10}, {0x20, 0x21}, {0x30, 0x31}, {0x40, 0x41, 0x42, 0x43},
		{0x50, 0x51, 0x52, 0x53, 0x54, 0x55, 0x56, 0x57},
		{0x60, 0x61, 0x62, 0x63, 0x64, 0x65, 0x66, 0x67, 0x68, 0x69, 0x6a, 0x6b, 0x6c, 0x6d, 0x6e, 0x6f},
	}
	for i, want := range []string{
		"6e340b9cffb37a989ca544e6bb780a2c78901d3fb33738768511a30617afa01d",
		"fac54203e7cc696cf0dfcb42c92a1d9dbaf70ad9e621f4bd8d98662f00e3c125",
		"aeb6bcfe274b70a14fb067a5e5578264db0fa9b51af5e0ba159158f329e06e77",
		"d37ee418976dd95753c1c73862b9398fa2a2cf9b4ff0fdfe8b30cd95209614b7",
		"4e3bbb1f7b478dcfe71fb631631519a3bca12c9aefca1612bfce4c13a86264d4",
		"76e67dadbcdf1e10e1b74ddc608abd2f98dfb16fbce75277b5232a127f2087ef",
		"ddb89be403809e325750d3d263cd78929c2942b7942a34b77e122c9594a74c8c",
		"5dc9da79a70659a9ad559cb701ded9a2ab9d823aad2f4960cfe370eff4604328",
	} {
		if got := merkle.Root(32, l[:i+1]); got != digest(t, want) || got != wantedRoot(32, l[:i+1]) {
			t.Errorf("Root of %d: %x", i+1, got)
		}
	}
}

// TestRootOfEachNumber: P8.1, Root of each number of leaves is the one that is reckoned floor by floor.
func TestRootOfEachNumber(t *testing.T) {
	r := rand.New(rand.NewSource(86))
	for _, n := range numbers() {
		for _, l := range [][][]byte{listOf(n), mixedOf(r, n), make([][]byte, n)} {
			for _, w := range []int{-1, 0, 1, 2, 31, 32, 33} {
				got := merkle.Root(w, l)
				if want := wantedRoot(w, l); got != want {
					t.Fatalf("width %d, %d leaves: %x, not %x", w, n, got, want)
				}
				wantBehindWidth(t, "Root", w, got)
			}
		}
	}
}

// TestRootAtEachWidth: P8.1, Root cuts at each step to the width that counts.
func TestRootAtEachWidth(t *testing.T) {
	for _, n := range []int{1, 2, 3, 5, 8, 13} {
		for _, w := range widths {
			if got, want := merkle.Root(w, listOf(n)), wantedRoot(w, listOf(n)); got != want {
				t.Errorf("width %d, %d leaves: %x, not %x", w, n, got, want)
			}
		}
	}
}

// TestRootParts: P8.1, Root is the Node of the Roots of the first k and of the others, and of no other two parts.
func TestRootParts(t *testing.T) {
	for n := 2; n < 70; n++ {
		l := listOf(n)
		k := 1
		for 2*k < n {
			k *= 2
		}
		for at := 1; at < n; at++ {
			parts := merkle.Node(32, merkle.Root(32, l[:at]), merkle.Root(32, l[at:]))
			if (parts == merkle.Root(32, l)) != (at == k) {
				t.Fatalf("%d leaves, parted at %d", n, at)
			}
		}
	}
}

// TestRootSeesEachLeaf: P8.1, lists that are unlike in one leaf, in their order or in their number have unlike roots.
func TestRootSeesEachLeaf(t *testing.T) {
	for _, n := range []int{1, 2, 3, 7, 8, 9, 33} {
		l := listOf(n)
		was := merkle.Root(32, l)
		for i := range l {
			other := slices.Clone(l)
			other[i] = []byte("other")
			if merkle.Root(32, other) == was {
				t.Errorf("%d leaves: leaf %d makes no difference", n, i)
			}
			if i > 0 {
				other = slices.Clone(l)
				other[i], other[i-1] = other[i-1], other[i]
				if merkle.Root(32, other) == was {
					t.Errorf("%d leaves: the order of %d and %d makes no difference", n, i-1, i)
				}
			}
		}
		for _, more := range [][]byte{nil, l[n-1]} {
			if merkle.Root(32, append(slices.Clone(l), more)) == was {
				t.Errorf("%d leaves: one more makes no difference", n)
			}
		}
	}
}

// TestNilLeavesAreEmpty: R4, nil and empty leaves mean the same to every call.
func TestNilLeavesAreEmpty(t *testing.T) {
	for n := 1; n < 20; n++ {
		none, empty := make([][]byte, n), make([][]byte, n)
		for i := range empty {
			empty[i] = []byte{}
		}
		for _, w := range edgeWidths {
			if merkle.Root(w, none) != merkle.Root(w, empty) {
				t.Errorf("%d leaves, width %d: Root", n, w)
			}
			for at := range uint64(n + 2) {
				p, why := merkle.Prove(w, none, at)
				q, because := merkle.Prove(w, empty, at)
				if !slices.Equal(p, q) || why != because {
					t.Errorf("%d leaves, width %d: Prove of %d", n, w, at)
				}
				p, why = merkle.Compare(w, none, at)
				q, because = merkle.Compare(w, empty, at)
				if !slices.Equal(p, q) || why != because {
					t.Errorf("%d leaves, width %d: Compare from %d", n, w, at)
				}
			}
		}
	}
}

// TestManyLeaves: R1, a list far beyond those of a log has its root, and its proofs in no more than one way through it.
func TestManyLeaves(t *testing.T) {
	l := make([][]byte, 1<<16+1)
	all := floors(5, l)
	if got := merkle.Root(5, l); got != topOf(all) {
		t.Errorf("Root: %x", got)
	}
	for _, at := range []uint64{1, 1<<15 + 1, 1 << 16} {
		p, why := merkle.Prove(5, l, at)
		if want := wantedPath(all, at); why != api.OK || !slices.Equal(p, want) {
			t.Errorf("Prove of %d: %x, %v", at, p, why)
		}
		p, why = merkle.Compare(5, l, at)
		if want := wantedGrowth(all, at); why != api.OK || !slices.Equal(p, want) {
			t.Errorf("Compare from %d: %x, %v", at, p, why)
		}
	}
	if p, why := merkle.Prove(5, l, math.MaxUint64); len(p) != 0 || why != api.ErrRange {
		t.Errorf("Prove past the end: %x, %v", p, why)
	}
}
