package verify_test

import (
	"fmt"
	"math"
	"math/rand"
	"slices"
	"testing"

	"deponent/api"
	"deponent/verify"
)

// shownLeaf is a leaf with a path that shows it.
type shownLeaf struct {
	width       int
	b           []byte
	index, size uint64
	path        []api.Digest
	root        api.Digest
}

// shownAt makes up a path, and answers it with the root that it leads to.
func shownAt(r *rand.Rand, width int, index, size uint64) shownLeaf {
	s := shownLeaf{width: width, b: someBytes(r, r.Intn(70)), index: index, size: size}
	s.path = somePath(r, heightOf(index, size))
	root, ok := ledTo(width, s.b, index, size, s.path)
	if !ok {
		panic("no path of such a leaf")
	}
	s.root = root
	return s
}

func (s shownLeaf) String() string {
	return fmt.Sprintf("width %d, %d of %d", s.width, s.index, s.size)
}

func (s shownLeaf) taken(path []api.Digest, root api.Digest) bool {
	return verify.Leaf(s.width, s.b, s.index, s.size, path, root)
}

// eachShown goes through sizes, places and widths.
func eachShown(seed int64, do func(r *rand.Rand, s shownLeaf)) {
	r := rand.New(rand.NewSource(seed))
	for _, size := range sizes() {
		for _, index := range placesIn(size) {
			for _, w := range widthsAt(index, size) {
				do(r, shownAt(r, w, index, size))
			}
		}
	}
}

// TestLeafIsTaken: P9.1, each leaf is taken with the path and the root that the other reckoning has.
func TestLeafIsTaken(t *testing.T) {
	eachShown(911, func(r *rand.Rand, s shownLeaf) {
		if !s.taken(s.path, s.root) {
			t.Fatalf("%v: not taken", s)
		}
	})
}

// TestLeafSeesTheRoot: P9.1, each byte of the root ahead of the width counts, none behind it does.
func TestLeafSeesTheRoot(t *testing.T) {
	eachShown(912, func(r *rand.Rand, s shownLeaf) {
		for i := range 32 {
			if s.taken(s.path, turned(s.root, i)) != (i >= counting(s.width)) {
				t.Fatalf("%v: the root turned at byte %d", s, i)
			}
		}
		if s.taken(s.path, api.Digest{}) != (s.root == api.Digest{}) {
			t.Fatalf("%v: the root of noughts", s)
		}
	})
}

// TestLeafSeesThePath: P9.1, each hash of the path counts ahead of the width, and not behind it.
func TestLeafSeesThePath(t *testing.T) {
	eachShown(913, func(r *rand.Rand, s shownLeaf) {
		ahead := counting(s.width)
		for _, at := range someOf(len(s.path)) {
			for _, i := range []int{0, r.Intn(ahead), ahead - 1} {
				other := turnedAt(s.path, at, i)
				want := wantedLeaf(s.width, s.b, s.index, s.size, other, s.root)
				if want && ahead > 8 || s.taken(other, s.root) != want {
					t.Fatalf("%v: hash %d turned at byte %d", s, at, i)
				}
			}
			if ahead < 32 && (!s.taken(turnedAt(s.path, at, ahead), s.root) || !s.taken(turnedAt(s.path, at, 31), s.root)) {
				t.Fatalf("%v: hash %d turned behind the width", s, at)
			}
		}
	})
}

// tooLong answers path with one hash more, at each place and with each that might be passed over.
func tooLong(r *rand.Rand, path []api.Digest) [][]api.Digest {
	var all [][]api.Digest
	for _, i := range someOf(len(path) + 1) {
		all = append(all, slices.Insert(slices.Clone(path), i, someDigest(r)), slices.Insert(slices.Clone(path), i, api.Digest{}))
	}
	return append(all, slices.Concat(path, path, somePath(r, 1)), slices.Concat(path, somePath(r, 300)))
}

// TestLeafPathTooLong: P9.1, all of the path is used: with more hashes it shows nothing, neither under its root nor under the roots that more steps would lead to.
func TestLeafPathTooLong(t *testing.T) {
	eachShown(914, func(r *rand.Rand, s shownLeaf) {
		for _, long := range tooLong(r, s.path) {
			if s.taken(long, s.root) {
				t.Fatalf("%v: taken with %d hashes", s, len(long))
			}
		}
		more := someDigest(r)
		long := append(slices.Clone(s.path), more)
		if s.taken(long, hashedNode(s.width, s.root, more)) || s.taken(long, hashedNode(s.width, more, s.root)) {
			t.Fatalf("%v: taken with a step more", s)
		}
	})
}

// TestLeafPathTooShort: P9.1, none of the path is missing: with less hashes it shows nothing, neither under its root nor under the hash that it leads to so far.
func TestLeafPathTooShort(t *testing.T) {
	eachShown(915, func(r *rand.Rand, s shownLeaf) {
		steps, _ := led(s.width, s.b, s.index, s.size, s.path)
		for _, n := range someOf(len(s.path)) {
			short := s.path[:n]
			if s.taken(short, s.root) || s.taken(short, hashed(s.width, steps[n])) {
				t.Fatalf("%v: taken with %d of %d hashes", s, n, len(s.path))
			}
			if s.taken(slices.Delete(slices.Clone(s.path), n, n+1), s.root) {
				t.Fatalf("%v: taken without hash %d", s, n)
			}
		}
		for _, none := range [][]api.Digest{nil, {}, s.path[:0]} {
			if s.taken(none, hashed(s.width, steps[0])) != (s.size == 1) {
				t.Fatalf("%v: taken without a path", s)
			}
		}
	})
}

// TestLeafPastTheEnd: P9.1, an index that is not below the size is never taken.
func TestLeafPastTheEnd(t *testing.T) {
	r := rand.New(rand.NewSource(916))
	for _, size := range append([]uint64{0}, sizes()...) {
		for _, past := range []uint64{0, 1, 2, size, math.MaxUint64 - size} {
			index := size + past
			if index < size {
				continue
			}
			for _, w := range widths {
				b := someBytes(r, 9)
				leaf := hashed(w, leafText(b))
				if verify.Leaf(w, b, index, size, nil, leaf) || verify.Leaf(w, b, math.MaxUint64, size, nil, leaf) {
					t.Fatalf("width %d, %d of %d: taken without a path", w, index, size)
				}
				if size == 0 {
					continue
				}
				s := shownAt(r, w, size-1, size)
				if verify.Leaf(w, s.b, index, size, s.path, s.root) || verify.Leaf(w, s.b, math.MaxUint64, size, s.path, s.root) {
					t.Fatalf("width %d, %d of %d: taken with the last one's path", w, index, size)
				}
				one := somePath(r, 1)
				if verify.Leaf(w, b, index, size, one, hashedNode(w, one[0], leaf)) || verify.Leaf(w, b, index, size, one, hashedNode(w, leaf, one[0])) {
					t.Fatalf("width %d, %d of %d: taken with one hash", w, index, size)
				}
			}
		}
	}
}

// TestLeafElsewhere: P9.1, at another index and of another size a leaf is taken just where the other reckoning takes it.
func TestLeafElsewhere(t *testing.T) {
	r := rand.New(rand.NewSource(917))
	for size := uint64(1); size < 20; size++ {
		for index := range size {
			s := shownAt(r, 32, index, size)
			for otherSize := range uint64(24) {
				for other := range uint64(24) {
					want := wantedLeaf(32, s.b, other, otherSize, s.path, s.root)
					if want && size == otherSize && index != other || verify.Leaf(32, s.b, other, otherSize, s.path, s.root) != want {
						t.Fatalf("%v: as %d of %d", s, other, otherSize)
					}
				}
			}
		}
	}
}

// TestLeafSeesTheText: P9.1, another text is not taken; nil and empty ones are one (R4).
func TestLeafSeesTheText(t *testing.T) {
	eachShown(918, func(r *rand.Rand, s shownLeaf) {
		for _, b := range [][]byte{append(slices.Clone(s.b), 0), append([]byte{0}, s.b...), leafText(leafText(s.b)), []byte("another one, that is as long as none of them, as they have less than seventy bytes")} {
			want := wantedLeaf(s.width, b, s.index, s.size, s.path, s.root)
			if want && counting(s.width) > 8 || verify.Leaf(s.width, b, s.index, s.size, s.path, s.root) != want {
				t.Fatalf("%v: %x in the place of %x", s, b, s.b)
			}
		}
		root, _ := ledTo(s.width, nil, s.index, s.size, s.path)
		for _, none := range [][]byte{nil, {}, s.b[:0]} {
			if !verify.Leaf(s.width, none, s.index, s.size, s.path, root) {
				t.Fatalf("%v: an empty leaf is not taken", s)
			}
		}
	})
}

// TestLeafAtRandom: P9.1, at width 1, where hashes often meet, a leaf is taken just where the other reckoning takes it.
func TestLeafAtRandom(t *testing.T) {
	r := rand.New(rand.NewSource(919))
	taken := 0
	for range 60000 {
		size := uint64(r.Intn(12))
		index := uint64(r.Intn(12))
		b, path, root := someBytes(r, r.Intn(3)), somePath(r, r.Intn(5)), someDigest(r)
		root[0] ^= byte(r.Intn(2))
		got := verify.Leaf(1, b, index, size, path, root)
		if got != wantedLeaf(1, b, index, size, path, root) {
			t.Fatalf("%d of %d: %x, %x, %x: %v", index, size, b, path, root, got)
		}
		if got {
			taken++
		}
	}
	if taken < 20 {
		t.Errorf("only %d are taken: the test tells too little", taken)
	}
}
