package merkle_test

import (
	"bytes"
	"fmt"
	"math/rand"
	"slices"
	"testing"

	"deponent/api"
	"deponent/merkle"
)

// ledTo goes up a path as RFC 9162 (2.1.3.2) does, and answers what was hashed at each step and the root that it leads to; false, if the path is too long or too short.
func ledTo(width int, b []byte, index, size uint64, path []api.Digest) ([][]byte, api.Digest, bool) {
	fn, sn := index, size-1
	w := counting(width)
	steps := [][]byte{append([]byte{0}, b...)}
	r := hashed(width, steps[0])
	for _, p := range path {
		if sn == 0 {
			return nil, r, false
		}
		left, right := r, p
		if fn%2 == 1 || fn == sn {
			left, right = p, r
			for fn%2 == 0 && fn != 0 {
				fn, sn = fn/2, sn/2
			}
		}
		step := slices.Concat([]byte{1}, left[:w], right[:w])
		steps = append(steps, step)
		r = hashed(width, step)
		fn, sn = fn/2, sn/2
	}
	return steps, r, sn == 0
}

func takenLeaf(width int, b []byte, index, size uint64, path []api.Digest, root api.Digest) bool {
	_, top, ok := ledTo(width, b, index, size, path)
	return ok && top == root
}

// takenPrefix holds a proof against two roots as RFC 9162 (2.1.4.2) does.
func takenPrefix(width int, from, to uint64, old, root api.Digest, path []api.Digest) bool {
	if from == to {
		return len(path) == 0 && old == root
	}
	if len(path) == 0 {
		return false
	}
	if from&(from-1) == 0 {
		path = slices.Concat([]api.Digest{old}, path)
	}
	fn, sn := from-1, to-1
	for fn%2 == 1 {
		fn, sn = fn/2, sn/2
	}
	fr, sr := path[0], path[0]
	for _, c := range path[1:] {
		if sn == 0 {
			return false
		}
		if fn%2 == 1 || fn == sn {
			fr, sr = hashedNode(width, c, fr), hashedNode(width, c, sr)
			for fn%2 == 0 && fn != 0 {
				fn, sn = fn/2, sn/2
			}
		} else {
			sr = hashedNode(width, sr, c)
		}
		fn, sn = fn/2, sn/2
	}
	return fr == old && sr == root && sn == 0
}

// TestPathsAreTaken: W4, the RFC's verifier takes what Prove answers, with the leaf and the Root.
func TestPathsAreTaken(t *testing.T) {
	r := rand.New(rand.NewSource(89))
	for _, n := range numbers() {
		l := mixedOf(r, n)
		for _, w := range []int{0, 1, 2, 31, 32} {
			root := merkle.Root(w, l)
			for _, index := range someOf(n) {
				p, _ := merkle.Prove(w, l, index)
				if !takenLeaf(w, l[index], index, uint64(n), p, root) {
					t.Fatalf("width %d, %d of %d: %x is not taken", w, index, n, p)
				}
			}
		}
	}
}

// TestGrowthsAreTaken: W4, the RFC's verifier takes what Compare answers, with both Roots.
func TestGrowthsAreTaken(t *testing.T) {
	r := rand.New(rand.NewSource(90))
	for _, n := range numbers() {
		l := mixedOf(r, n)
		for _, w := range []int{0, 1, 2, 31, 32} {
			root := merkle.Root(w, l)
			for _, below := range someOf(n) {
				from := below + 1
				p, _ := merkle.Compare(w, l, from)
				if !takenPrefix(w, from, uint64(n), merkle.Root(w, l[:from]), root, p) {
					t.Fatalf("width %d, %d from %d: %x is not taken", w, n, from, p)
				}
			}
		}
	}
}

// spoilt answers path in each way of one digest that is another, one that is missing, one too many, two in the other order.
func spoilt(path []api.Digest) [][]api.Digest {
	var all [][]api.Digest
	for i := range path {
		other := slices.Clone(path)
		other[i][31] ^= 1
		all = append(all, other, slices.Delete(slices.Clone(path), i, i+1))
		if i > 0 {
			other = slices.Clone(path)
			other[i], other[i-1] = other[i-1], other[i]
			all = append(all, other)
		}
	}
	for i := range len(path) + 1 {
		all = append(all, slices.Insert(slices.Clone(path), i, api.Digest{9}))
	}
	return all
}

// TestNothingElseIsTaken: W4, with whole hashes neither another leaf, nor another place, nor another path is taken under a Root.
func TestNothingElseIsTaken(t *testing.T) {
	for n := 1; n < 20; n++ {
		l := listOf(n)
		root := merkle.Root(32, l)
		for index := range uint64(n) {
			p, _ := merkle.Prove(32, l, index)
			if takenLeaf(32, []byte("other"), index, uint64(n), p, root) {
				t.Errorf("%d of %d: another leaf is taken", index, n)
			}
			for at := range uint64(n) {
				if at != index && takenLeaf(32, l[index], at, uint64(n), p, root) {
					t.Errorf("%d of %d: it is taken at %d", index, n, at)
				}
			}
			for _, q := range spoilt(p) {
				if takenLeaf(32, l[index], index, uint64(n), q, root) {
					t.Errorf("%d of %d: another path is taken", index, n)
				}
			}
			from := index + 1
			p, _ = merkle.Compare(32, l, from)
			for _, q := range spoilt(p) {
				if takenPrefix(32, from, uint64(n), merkle.Root(32, l[:from]), root, q) {
					t.Errorf("%d from %d: another proof is taken", n, from)
				}
			}
			if other := merkle.Root(32, listOf(21)[20-index:]); takenPrefix(32, from, uint64(n), other, root, p) {
				t.Errorf("%d from %d: another beginning is taken", n, from)
			}
		}
	}
}

// sameRoot answers l with another leaf at index, such that its Root is the same.
func sameRoot(t *testing.T, width int, l [][]byte, index uint64) [][]byte {
	t.Helper()
	root := merkle.Root(width, l)
	other := slices.Clone(l)
	for i := range 1 << 16 {
		other[index] = fmt.Append(nil, "other ", i)
		if merkle.Root(width, other) == root {
			return other
		}
	}
	t.Fatalf("width %d: no other leaf has the same root", width)
	return nil
}

// TestUnlikeLeavesUnderOneRoot: W4, where cut hashes meet, so that two unlike leaves are taken at one place of one Root, there is a step on the way up at which two unlike texts have one hash.
func TestUnlikeLeavesUnderOneRoot(t *testing.T) {
	const width = 1
	for _, n := range []int{1, 2, 3, 5, 8, 13} {
		for index := range uint64(n) {
			l := listOf(n)
			other := sameRoot(t, width, l, index)
			root := merkle.Root(width, l)
			p, _ := merkle.Prove(width, l, index)
			q, _ := merkle.Prove(width, other, index)
			a, top, ok := ledTo(width, l[index], index, uint64(n), p)
			b, otherTop, otherOk := ledTo(width, other[index], index, uint64(n), q)
			if !ok || !otherOk || top != root || otherTop != root {
				t.Fatalf("%d of %d: not both are taken", index, n)
			}
			told := false
			for i := range a {
				told = told || !bytes.Equal(a[i], b[i]) && hashed(width, a[i]) == hashed(width, b[i])
			}
			if !told {
				t.Errorf("%d of %d: no two texts have one hash", index, n)
			}
		}
	}
}
