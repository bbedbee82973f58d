package verify_test

import (
	"bytes"
	"fmt"
	"math/rand"
	"slices"
	"testing"

	"deponent/api"
	"deponent/merkle"
	"deponent/sha"
	"deponent/verify"
)

// numbers are those of lists: small ones, those about powers of two, and some hundreds.
func numbers() []int {
	var l []int
	for n := 1; n < 20; n++ {
		l = append(l, n)
	}
	return append(l, 31, 32, 33, 63, 64, 65, 128, 129, 255, 300)
}

// TestProofsAreTaken: P9.4 and W4, what Prove answers is taken with the Root.
func TestProofsAreTaken(t *testing.T) {
	r := rand.New(rand.NewSource(951))
	for _, n := range numbers() {
		for _, l := range [][][]byte{listOf(n), mixedOf(r, n)} {
			for _, w := range widths {
				root := merkle.Root(w, l)
				for _, index := range placesIn(uint64(n)) {
					p, why := merkle.Prove(w, l, index)
					if why != api.OK || !verify.Leaf(w, l[index], index, uint64(n), p, root) {
						t.Fatalf("width %d, %d of %d: not taken", w, index, n)
					}
				}
			}
		}
	}
}

// TestGrowthsAreTaken: P9.4 and W4, what Compare answers is taken with both Roots.
func TestGrowthsAreTaken(t *testing.T) {
	r := rand.New(rand.NewSource(952))
	for _, n := range numbers() {
		for _, l := range [][][]byte{listOf(n), mixedOf(r, n)} {
			for _, w := range widths {
				root := merkle.Root(w, l)
				for _, below := range placesIn(uint64(n)) {
					from := below + 1
					p, why := merkle.Compare(w, l, from)
					if why != api.OK || !verify.Prefix(w, from, uint64(n), merkle.Root(w, l[:from]), root, p) {
						t.Fatalf("width %d, from %d to %d: not taken", w, from, n)
					}
				}
			}
		}
	}
}

// TestNothingElseIsTaken: W4, with whole hashes neither another leaf, nor another place, nor another beginning is taken under a Root.
func TestNothingElseIsTaken(t *testing.T) {
	for n := 1; n < 20; n++ {
		l := listOf(n)
		size, root := uint64(n), merkle.Root(32, l)
		for index := range size {
			p, _ := merkle.Prove(32, l, index)
			if verify.Leaf(32, []byte("other"), index, size, p, root) {
				t.Errorf("%d of %d: another leaf is taken", index, n)
			}
			for at := range size {
				q, _ := merkle.Prove(32, l, at)
				if at != index && (verify.Leaf(32, l[index], at, size, p, root) || verify.Leaf(32, l[index], at, size, q, root) || verify.Leaf(32, l[index], index, size, q, root)) {
					t.Errorf("%d of %d: taken at %d", index, n, at)
				}
			}
			from := index + 1
			p, _ = merkle.Compare(32, l, from)
			other := merkle.Root(32, append(slices.Clone(l[:index]), []byte("other")))
			if verify.Prefix(32, from, size, other, root, p) {
				t.Errorf("from %d to %d: another beginning is taken", from, n)
			}
		}
	}
}

// TestNodesAreNoLeaves: W4, what a node is made of is not taken as a leaf of the smaller tree that ends above it.
func TestNodesAreNoLeaves(t *testing.T) {
	l := listOf(4)
	root := merkle.Root(32, l)
	left, right := merkle.Root(32, l[:2]), merkle.Root(32, l[2:])
	both := slices.Concat(left[:], right[:])
	for _, b := range [][]byte{both, append([]byte{1}, both...)} {
		if verify.Leaf(32, b, 0, 1, nil, root) {
			t.Error("the node above all is taken as the only leaf")
		}
	}
}

// sameRoot answers l with another leaf at index, such that its Root is the same.
func sameRoot(t *testing.T, width int, l [][]byte, index uint64) [][]byte {
	t.Helper()
	root := merkle.Root(width, l)
	other := slices.Clone(l)
	for i := range 1 << 16 {
		other[index] = fmt.Append(nil, "other ", i)
		if merkle.Root(width, other) == root {
			return other
		}
	}
	t.Fatalf("width %d: no other leaf has the same root", width)
	return nil
}

// TestUnlikeLeavesUnderOneRoot: P9.4 and W4, of two unlike leaves that are taken at one place of one Root Collide tells two unlike texts whose Sums, cut, are one.
func TestUnlikeLeavesUnderOneRoot(t *testing.T) {
	const width = 1
	for _, n := range []int{1, 2, 3, 5, 8, 13} {
		for index := range uint64(n) {
			l := listOf(n)
			other := sameRoot(t, width, l, index)
			root, size := merkle.Root(width, l), uint64(n)
			p, _ := merkle.Prove(width, l, index)
			if !verify.Leaf(width, l[index], index, size, p, root) || !verify.Leaf(width, other[index], index, size, p, root) {
				t.Fatalf("%d of %d: not both are taken", index, n)
			}
			x, y, ok := verify.Collide(width, l[index], other[index], index, size, p, p)
			if !ok || bytes.Equal(x, y) || sha.Cut(sha.Sum(x), width) != sha.Cut(sha.Sum(y), width) {
				t.Errorf("%d of %d: %x, %x, %v", index, n, x, y, ok)
			}
		}
	}
}

// TestTakenMeansTold: P9.4, Collide tells something of two unlike texts just where Leaf takes both under one root.
func TestTakenMeansTold(t *testing.T) {
	r := rand.New(rand.NewSource(953))
	told := 0
	for range 40000 {
		size := uint64(1 + r.Intn(6))
		index := uint64(r.Intn(int(size)))
		height := heightOf(index, size)
		a, b, p, q := someBytes(r, 4), someBytes(r, 5), somePath(r, height), somePath(r, height)
		root, _ := ledTo(1, a, index, size, p)
		if !verify.Leaf(1, a, index, size, p, root) {
			t.Fatalf("%d of %d: not taken", index, size)
		}
		x, y, ok := verify.Collide(1, a, b, index, size, p, q)
		if ok != verify.Leaf(1, b, index, size, q, root) {
			t.Fatalf("%d of %d: told, or taken", index, size)
		}
		if !ok {
			continue
		}
		told++
		if bytes.Equal(x, y) || hashed(1, x) != hashed(1, y) {
			t.Fatalf("%d of %d: %x and %x are told", index, size, x, y)
		}
	}
	if told < 20 {
		t.Errorf("only %d are told: the test tells too little", told)
	}
}
