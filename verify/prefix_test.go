package verify_test

import (
	"fmt"
	"math"
	"math/rand"
	"slices"
	"testing"

	"deponent/api"
	"deponent/verify"
)

// shownGrowth is a beginning with a path that shows it.
type shownGrowth struct {
	width     int
	from, to  uint64
	old, root api.Digest
	path      []api.Digest
}

// grownAt makes up a path, and answers it with the roots that it leads to; they have other bytes than 0 behind the width.
func grownAt(r *rand.Rand, width int, from, to uint64) shownGrowth {
	s := shownGrowth{width: width, from: from, to: to, path: somePath(r, growthOf(from, to, true))}
	was, is, ok := grown(width, from, to, someDigest(r), s.path, true)
	if !ok {
		panic("no path of such a beginning")
	}
	s.old, s.root = was, is
	for i := counting(width); i < 32; i++ {
		s.old[i], s.root[i] = byte(r.Int()), byte(r.Int())
	}
	return s
}

func (s shownGrowth) String() string {
	return fmt.Sprintf("width %d, from %d to %d", s.width, s.from, s.to)
}

func (s shownGrowth) taken(old, root api.Digest, path []api.Digest) bool {
	return verify.Prefix(s.width, s.from, s.to, old, root, path)
}

// eachGrown goes through sizes, for each of them through each number of leaves up to it (of many, through some), and through widths.
func eachGrown(seed int64, do func(r *rand.Rand, s shownGrowth)) {
	r := rand.New(rand.NewSource(seed))
	for _, to := range sizes() {
		for _, below := range placesIn(to) {
			for _, w := range widthsAt(below, to) {
				do(r, grownAt(r, w, below+1, to))
			}
		}
	}
}

// TestPrefixIsTaken: P9.2, each beginning is taken with the path and the roots that the other reckoning has.
func TestPrefixIsTaken(t *testing.T) {
	eachGrown(921, func(r *rand.Rand, s shownGrowth) {
		if !s.taken(s.old, s.root, s.path) {
			t.Fatalf("%v: not taken", s)
		}
	})
}

// TestPrefixSeesTheRoots: P9.2, each byte of both roots ahead of the width counts, none behind it does.
func TestPrefixSeesTheRoots(t *testing.T) {
	eachGrown(922, func(r *rand.Rand, s shownGrowth) {
		for i := range 32 {
			for _, c := range [][2]api.Digest{{turned(s.old, i), s.root}, {s.old, turned(s.root, i)}} {
				want := wantedPrefix(s.width, s.from, s.to, c[0], c[1], s.path)
				if i >= counting(s.width) && !want || i < counting(s.width) && counting(s.width) > 8 && want {
					t.Fatalf("%v: a root turned at byte %d: the other reckoning says %v", s, i, want)
				}
				if s.taken(c[0], c[1], s.path) != want {
					t.Fatalf("%v: a root turned at byte %d", s, i)
				}
			}
		}
		if want := wantedPrefix(s.width, s.from, s.to, s.root, s.old, s.path); s.taken(s.root, s.old, s.path) != want {
			t.Fatalf("%v: both roots in the other order", s)
		}
	})
}

// TestPrefixSeesThePath: P9.2, each hash of the path counts ahead of the width, and not behind it.
func TestPrefixSeesThePath(t *testing.T) {
	eachGrown(923, func(r *rand.Rand, s shownGrowth) {
		ahead := counting(s.width)
		for _, at := range someOf(len(s.path)) {
			for _, i := range []int{0, r.Intn(ahead), ahead - 1} {
				other := turnedAt(s.path, at, i)
				want := wantedPrefix(s.width, s.from, s.to, s.old, s.root, other)
				if want && ahead > 8 || s.taken(s.old, s.root, other) != want {
					t.Fatalf("%v: hash %d turned at byte %d", s, at, i)
				}
			}
			if ahead < 32 && (!s.taken(s.old, s.root, turnedAt(s.path, at, ahead)) || !s.taken(s.old, s.root, turnedAt(s.path, at, 31))) {
				t.Fatalf("%v: hash %d turned behind the width", s, at)
			}
		}
	})
}

// TestPrefixPathTooLong: P9.2, with more hashes a path shows nothing, neither under its roots nor under those that more steps would lead to.
func TestPrefixPathTooLong(t *testing.T) {
	eachGrown(924, func(r *rand.Rand, s shownGrowth) {
		for _, long := range tooLong(r, s.path) {
			if s.taken(s.old, s.root, long) {
				t.Fatalf("%v: taken with %d hashes", s, len(long))
			}
		}
		more := someDigest(r)
		long := append(slices.Clone(s.path), more)
		if s.taken(s.old, hashedNode(s.width, s.root, more), long) || s.taken(hashedNode(s.width, more, s.old), hashedNode(s.width, more, s.root), long) {
			t.Fatalf("%v: taken with a step more", s)
		}
	})
}

// TestPrefixPathTooShort: P9.2, with less hashes a path shows nothing, neither under its roots nor under those that it leads to so far.
func TestPrefixPathTooShort(t *testing.T) {
	eachGrown(925, func(r *rand.Rand, s shownGrowth) {
		for _, n := range someOf(len(s.path)) {
			short := s.path[:n]
			if s.taken(s.old, s.root, short) {
				t.Fatalf("%v: taken with %d of %d hashes", s, n, len(s.path))
			}
			if n > 0 {
				was, is, _ := prefixByWords(s.width, s.from, s.to, s.old, short)
				if s.taken(was, is, short) {
					t.Fatalf("%v: taken with %d of %d hashes, as far as they lead", s, n, len(s.path))
				}
			}
			if s.taken(s.old, s.root, slices.Delete(slices.Clone(s.path), n, n+1)) {
				t.Fatalf("%v: taken without hash %d", s, n)
			}
		}
		for _, none := range [][]api.Digest{nil, {}, s.path[:0]} {
			if s.taken(s.old, s.old, none) != (s.from == s.to) {
				t.Fatalf("%v: without a path", s)
			}
		}
	})
}

// TestPrefixOfItself: P9.2, from a number to the same one no path and one root are asked for, and nothing else is taken.
func TestPrefixOfItself(t *testing.T) {
	r := rand.New(rand.NewSource(926))
	for _, n := range sizes() {
		for _, w := range widths {
			root := someDigest(r)
			for _, none := range [][]api.Digest{nil, {}, make([]api.Digest, 3)[:0]} {
				if !verify.Prefix(w, n, n, root, root, none) {
					t.Fatalf("width %d, %d: not taken", w, n)
				}
				for i := range 32 {
					if verify.Prefix(w, n, n, root, turned(root, i), none) != (i >= counting(w)) || verify.Prefix(w, n, n, turned(root, i), root, none) != (i >= counting(w)) {
						t.Fatalf("width %d, %d: a root turned at byte %d", w, n, i)
					}
				}
			}
			for _, path := range [][]api.Digest{{root}, {{}}, {root, root}, somePath(r, 64), somePath(r, 300)} {
				if verify.Prefix(w, n, n, root, root, path) {
					t.Fatalf("width %d, %d: taken with %d hashes", w, n, len(path))
				}
			}
		}
	}
}

// TestPrefixRefuses: P9.2, from 0 and from more than there are nothing is taken.
func TestPrefixRefuses(t *testing.T) {
	r := rand.New(rand.NewSource(927))
	for _, to := range append([]uint64{0}, sizes()...) {
		for _, w := range widths {
			root, other := someDigest(r), someDigest(r)
			paths := [][]api.Digest{nil, {}, {root}, {root, other}, somePath(r, 63), somePath(r, 64), somePath(r, 65), somePath(r, 300)}
			for _, path := range paths {
				for _, from := range []uint64{0, to + 1, to + 2, 2 * to, math.MaxUint64} {
					if from != 0 && from <= to {
						continue
					}
					if verify.Prefix(w, from, to, root, root, path) || verify.Prefix(w, from, to, hashed(w, nil), root, path) || verify.Prefix(w, from, to, root, other, path) {
						t.Fatalf("width %d, from %d to %d: taken with %d hashes", w, from, to, len(path))
					}
				}
			}
			if verify.Prefix(w, 0, to, hashed(w, nil), hashed(w, nil), nil) {
				t.Fatalf("width %d, from 0 to %d: taken", w, to)
			}
		}
	}
	for from := uint64(2); from < 40; from++ {
		s := grownAt(r, 32, from-1, from)
		if verify.Prefix(32, from, from-1, s.root, s.old, s.path) || verify.Prefix(32, from, from-1, s.old, s.root, s.path) {
			t.Fatalf("from %d to %d: taken", from, from-1)
		}
	}
}

// TestPrefixElsewhere: P9.2, of other numbers a beginning is taken just where the other reckoning takes it.
func TestPrefixElsewhere(t *testing.T) {
	r := rand.New(rand.NewSource(928))
	for to := uint64(1); to < 18; to++ {
		for from := uint64(1); from <= to; from++ {
			s := grownAt(r, 32, from, to)
			for otherTo := range uint64(20) {
				for other := range uint64(20) {
					want := wantedPrefix(32, other, otherTo, s.old, s.root, s.path)
					if verify.Prefix(32, other, otherTo, s.old, s.root, s.path) != want {
						t.Fatalf("%v: as from %d to %d", s, other, otherTo)
					}
				}
			}
		}
	}
}

// TestPrefixAtRandom: P9.2, at width 1, where hashes often meet, a beginning is taken just where the other reckoning takes it.
func TestPrefixAtRandom(t *testing.T) {
	r := rand.New(rand.NewSource(929))
	taken := 0
	for range 100000 {
		from, to := uint64(r.Intn(10)), uint64(r.Intn(12))
		path, old, root := somePath(r, r.Intn(5)), someDigest(r), someDigest(r)
		if r.Intn(4) == 0 {
			root = old
		}
		if was, is, ok := grown(1, max(from, 1), max(from, to, 1), old, path, true); ok && r.Intn(4) == 0 {
			old, root = was, is
		}
		got := verify.Prefix(1, from, to, old, root, path)
		if got != wantedPrefix(1, from, to, old, root, path) {
			t.Fatalf("from %d to %d: %x, %x, %x: %v", from, to, old, root, path, got)
		}
		if got && from < to {
			taken++
		}
	}
	if taken < 20 {
		t.Errorf("only %d are taken: the test tells too little", taken)
	}
}
