package verify_test

import (
	"math/rand"
	"slices"
	"testing"

	"deponent/api"
	"deponent/verify"
)

// leafByWords goes up step by step as P9.1 has it, and answers where it ends, and whether sn is 0 just then.
func leafByWords(width int, b []byte, index, size uint64, path []api.Digest) (r api.Digest, whole bool) {
	fn, sn := index, size-1
	r = hashed(width, leafText(b))
	for _, p := range path {
		if sn == 0 {
			return r, false
		}
		if fn%2 == 1 || fn == sn {
			r = hashedNode(width, p, r)
			if fn%2 != 1 {
				for fn%2 != 1 && fn != 0 {
					fn, sn = fn/2, sn/2
				}
			}
		} else {
			r = hashedNode(width, r, p)
		}
		fn, sn = fn/2, sn/2
	}
	return r, sn == 0
}

// prefixByWords goes up step by step as P9.2 has it, from a number to a greater one by a path that is not empty.
func prefixByWords(width int, from, to uint64, old api.Digest, path []api.Digest) (fr, sr api.Digest, whole bool) {
	if from&(from-1) == 0 {
		path = slices.Concat([]api.Digest{old}, path)
	}
	fn, sn := from-1, to-1
	for fn%2 == 1 {
		fn, sn = fn/2, sn/2
	}
	fr = shortened(width, path[0])
	sr = fr
	for _, c := range path[1:] {
		if sn == 0 {
			return fr, sr, false
		}
		if fn%2 == 1 || fn == sn {
			fr, sr = hashedNode(width, c, fr), hashedNode(width, c, sr)
			if fn%2 != 1 {
				for fn%2 != 1 && fn != 0 {
					fn, sn = fn/2, sn/2
				}
			}
		} else {
			sr = hashedNode(width, sr, c)
		}
		fn, sn = fn/2, sn/2
	}
	return fr, sr, sn == 0
}

// lengthsAbout are lengths of paths: none, those about the one that fits, and one of some hundreds.
func lengthsAbout(n int) []int {
	l := []int{0, 1, n, n + 1, n + 2, n + 300}
	if n > 0 {
		l = append(l, n-1, n/2)
	}
	return l
}

// TestLeafByWords: P9.1, a path is taken, under what its steps lead to, just if the chapter's steps use all of it and miss none.
func TestLeafByWords(t *testing.T) {
	r := rand.New(rand.NewSource(971))
	for _, size := range append(sizes(), 20, 21, 22, 23, 24, 40, 47, 48, 96, 100) {
		for _, index := range placesIn(size) {
			for _, w := range []int{1, 32} {
				for _, n := range lengthsAbout(heightOf(index, size)) {
					b, path := someBytes(r, 3), somePath(r, n)
					root, whole := leafByWords(w, b, index, size, path)
					if verify.Leaf(w, b, index, size, path, root) != whole || verify.Leaf(w, b, index, size, path, turned(root, 0)) {
						t.Fatalf("width %d, %d of %d, %d hashes: not as the chapter says", w, index, size, n)
					}
					if top, ok := ledTo(w, b, index, size, path); ok != whole || ok && top != root {
						t.Fatalf("%d of %d, %d hashes: the other reckoning says otherwise", index, size, n)
					}
				}
			}
		}
	}
}

// TestPrefixByWords: P9.2, a path is taken, between what its steps lead to, just if the chapter's steps use all of it and miss none.
func TestPrefixByWords(t *testing.T) {
	r := rand.New(rand.NewSource(972))
	for _, to := range append(sizes(), 20, 21, 22, 23, 24, 40, 47, 48, 96, 100) {
		for _, below := range placesIn(to) {
			from := below + 1
			if from == to {
				continue
			}
			for _, w := range []int{1, 32} {
				for _, n := range lengthsAbout(growthOf(from, to, true)) {
					old, path := someDigest(r), somePath(r, n)
					if n == 0 {
						if verify.Prefix(w, from, to, old, old, path) {
							t.Fatalf("width %d, from %d to %d: taken without a path", w, from, to)
						}
						continue
					}
					was, is, whole := prefixByWords(w, from, to, old, path)
					if verify.Prefix(w, from, to, was, is, path) != whole || verify.Prefix(w, from, to, was, turned(is, 0), path) {
						t.Fatalf("width %d, from %d to %d, %d hashes: not as the chapter says", w, from, to, n)
					}
					if fr, sr, ok := grown(w, from, to, old, path, true); ok != whole || ok && (fr != was || sr != is) {
						t.Fatalf("from %d to %d, %d hashes: the other reckoning says otherwise", from, to, n)
					}
				}
			}
		}
	}
}
