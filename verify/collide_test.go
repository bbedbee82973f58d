package verify_test

import (
	"bytes"
	"fmt"
	"math"
	"math/rand"
	"slices"
	"testing"

	"deponent/api"
	"deponent/verify"
)

// twins answers two unlike texts whose Leaf is one at a width.
func twins(t *testing.T, width int) (a, b []byte) {
	t.Helper()
	met := map[api.Digest][]byte{}
	for i := range 1 << 20 {
		b := fmt.Append(nil, i)
		d := hashed(width, leafText(b))
		if a, ok := met[d]; ok {
			return a, b
		}
		met[d] = b
	}
	t.Fatalf("width %d: no two leaves meet", width)
	return nil, nil
}

// pair is two texts at one place, with a path each.
type pair struct {
	width       int
	a, b        []byte
	index, size uint64
	p, q        []api.Digest
}

func (s pair) String() string {
	return fmt.Sprintf("width %d, %d of %d, %x and %x", s.width, s.index, s.size, s.a, s.b)
}

func (s pair) collide() ([]byte, []byte, bool) {
	return verify.Collide(s.width, s.a, s.b, s.index, s.size, s.p, s.q)
}

// turnedRound is s with both texts and both paths in the other order.
func (s pair) turnedRound() pair {
	s.a, s.b, s.p, s.q = s.b, s.a, s.q, s.p
	return s
}

// ones tells of each step whether one hash comes of both.
func (s pair) ones() []bool {
	steps, ok := led(s.width, s.a, s.index, s.size, s.p)
	others, also := led(s.width, s.b, s.index, s.size, s.q)
	if !ok || !also {
		panic("no path of such a leaf")
	}
	l := make([]bool, len(steps))
	for i := range steps {
		l[i] = hashed(s.width, steps[i]) == hashed(s.width, others[i])
	}
	return l
}

// wantTold asks for the texts of the step at which the ways first meet.
func wantTold(t *testing.T, s pair, at int) {
	t.Helper()
	steps, _ := led(s.width, s.a, s.index, s.size, s.p)
	others, _ := led(s.width, s.b, s.index, s.size, s.q)
	x, y, ok := s.collide()
	if !ok || !bytes.Equal(x, steps[at]) || !bytes.Equal(y, others[at]) {
		t.Fatalf("%v: not told at step %d: %x, %x, %v", s, at, x, y, ok)
	}
	if bytes.Equal(x, y) || hashed(s.width, x) != hashed(s.width, y) {
		t.Fatalf("%v: %x and %x are told", s, x, y)
	}
}

func wantNothingTold(t *testing.T, what string, s pair) {
	t.Helper()
	if x, y, ok := s.collide(); len(x) != 0 || len(y) != 0 || ok {
		t.Fatalf("%s: %v: %x, %x, %v are told", what, s, x, y, ok)
	}
}

// meetingAt makes up two ways at width 1 that meet at a step for the first time, and are one from there on; 0 is that of the leaves.
func meetingAt(t *testing.T, r *rand.Rand, index, size uint64, step int) pair {
	t.Helper()
	s := pair{width: 1, a: someBytes(r, r.Intn(9)), index: index, size: size}
	s.p = somePath(r, heightOf(index, size))
	for range 1 << 16 {
		s.b = someBytes(r, r.Intn(9))
		s.q = slices.Concat(somePath(r, step), s.p[step:])
		if ones := s.ones(); !bytes.Equal(s.a, s.b) && slices.Index(ones, true) == step {
			return s
		}
	}
	t.Fatalf("%d of %d: no two ways meet at step %d", index, size, step)
	return s
}

// collidePlaces are places in trees of many shapes.
func collidePlaces() [][2]uint64 {
	var l [][2]uint64
	for size := uint64(1); size < 14; size++ {
		for index := range size {
			l = append(l, [2]uint64{index, size})
		}
	}
	return append(l, [][2]uint64{
		{0, 300}, {255, 300}, {256, 300}, {298, 300}, {299, 300}, {512, 513}, {1 << 31, 1<<31 + 1}, {5, 1 << 32},
		{0, math.MaxUint64}, {1 << 63, math.MaxUint64}, {math.MaxUint64 - 1, math.MaxUint64}, {math.MaxUint64 - 2, math.MaxUint64 - 1}, {1 << 63, 1<<63 + 1},
	}...)
}

// TestCollideTells: P9.3, wherever two ways first meet, what is hashed there is told, in the order of both texts.
func TestCollideTells(t *testing.T) {
	r := rand.New(rand.NewSource(931))
	for _, c := range collidePlaces() {
		for _, step := range someOf(heightOf(c[0], c[1]) + 1) {
			s := meetingAt(t, r, c[0], c[1], step)
			wantTold(t, s, step)
			wantTold(t, s.turnedRound(), step)
		}
	}
}

// TestCollideForms: P9.3, what is told of leaves is a byte 0 and each text; of nodes a byte 1 and two cut hashes.
func TestCollideForms(t *testing.T) {
	r := rand.New(rand.NewSource(932))
	for _, w := range []int{1, 2, 3, 4} {
		a, b := twins(t, w)
		p := somePath(r, 2)
		wantTold(t, pair{w, a, b, 1, 3, p, p}, 0)
		x, y, ok := verify.Collide(w, a, b, 1, 3, p, p)
		if !ok || !bytes.Equal(x, append([]byte{0}, a...)) || !bytes.Equal(y, append([]byte{0}, b...)) {
			t.Errorf("width %d: %x and %x: %x, %x, %v", w, a, b, x, y, ok)
		}
	}
	// Index 1 of two: the path's hash stands on the left. Index 0: on the right.
	for index := range uint64(2) {
		s := meetingAt(t, r, index, 2, 1)
		leaf, other := hashed(1, leafText(s.a)), hashed(1, leafText(s.b))
		want := [][]byte{{1, s.p[0][0], leaf[0]}, {1, s.q[0][0], other[0]}}
		if index == 0 {
			want = [][]byte{{1, leaf[0], s.p[0][0]}, {1, other[0], s.q[0][0]}}
		}
		x, y, ok := s.collide()
		if !ok || !bytes.Equal(x, want[0]) || !bytes.Equal(y, want[1]) {
			t.Errorf("%v: %x, %x, %v, not %x", s, x, y, ok, want)
		}
	}
}

// TestCollideAtWidthTwo: P9.3, where unlike leaves meet only above, at a width of more than one byte, both hashes of a node are told at that width.
func TestCollideAtWidthTwo(t *testing.T) {
	a, b := []byte("a"), []byte("b")
	p := []api.Digest{{9, 9, 9}, {8, 8, 8}}
	root, _ := ledTo(2, a, 2, 4, p)
	for i := range 1 << 20 {
		q := []api.Digest{{byte(i >> 16), byte(i >> 8), 7}, {byte(i), byte(i >> 12), 7}}
		if !wantedLeaf(2, b, 2, 4, q, root) {
			continue
		}
		s := pair{2, a, b, 2, 4, p, q}
		wantTold(t, s, slices.Index(s.ones(), true))
		if x, y, _ := s.collide(); len(x) != 5 || len(y) != 5 || x[0] != 1 || y[0] != 1 {
			t.Errorf("%v: %x, %x", s, x, y)
		}
		return
	}
	t.Error("no path leads there")
}

// TestCollideMeetsTwice: P9.3, of ways that meet, part and meet again the first step is told.
func TestCollideMeetsTwice(t *testing.T) {
	r := rand.New(rand.NewSource(933))
	for _, c := range [][2]uint64{{0, 8}, {3, 8}, {7, 8}, {6, 11}, {0, 300}, {77, 1 << 20}} {
		height := heightOf(c[0], c[1])
		for step := range height - 1 {
			s := meetingAt(t, r, c[0], c[1], step)
			q := slices.Clone(s.q)
			for tries := 0; ; tries++ {
				s.q = slices.Concat(q[:step], somePath(r, 2), q[step+2:])
				if ones := s.ones(); !ones[step+1] && ones[step+2] {
					break
				}
				if tries > 1<<16 {
					t.Fatalf("%v: the ways don't meet again", s)
				}
			}
			wantTold(t, s, step)
			wantTold(t, s.turnedRound(), step)
		}
	}
}

// TestCollideUnderUnlikeRoots: P9.3, ways that meet, but part again below the root, show nothing.
func TestCollideUnderUnlikeRoots(t *testing.T) {
	r := rand.New(rand.NewSource(934))
	for _, c := range [][2]uint64{{0, 2}, {1, 2}, {2, 5}, {4, 5}, {3, 300}, {9, math.MaxUint64}} {
		height := heightOf(c[0], c[1])
		for _, step := range someOf(height) {
			s := meetingAt(t, r, c[0], c[1], step)
			for s.ones()[height] {
				s.q[height-1] = someDigest(r)
			}
			wantNothingTold(t, "unlike roots", s)
			wantNothingTold(t, "unlike roots", s.turnedRound())
		}
	}
}

// TestCollideOfOneText: P9.3, of one text nothing is told, even if unlike paths show it under one root. nil and empty are one text (R4).
func TestCollideOfOneText(t *testing.T) {
	r := rand.New(rand.NewSource(935))
	for _, b := range [][]byte{nil, {}, {0}, []byte("abc"), someBytes(r, 300)} {
		for _, c := range [][2]uint64{{0, 1}, {0, 2}, {1, 3}, {2, 3}, {5, 7}, {0, 300}} {
			p := somePath(r, heightOf(c[0], c[1]))
			for _, w := range widths {
				wantNothingTold(t, "one text, one path", pair{w, b, slices.Clone(b), c[0], c[1], p, p})
			}
			if len(p) == 0 {
				continue
			}
			p, q := twoPaths(t, r, b, c[0], c[1])
			wantNothingTold(t, "one text, two paths", pair{1, b, slices.Clone(b), c[0], c[1], p, q})
			if len(b) == 0 {
				wantNothingTold(t, "nil and empty", pair{1, nil, []byte{}, c[0], c[1], p, q})
				wantNothingTold(t, "empty and nil", pair{1, []byte{}, nil, c[0], c[1], p, q})
			}
		}
	}
}

// twoPaths answers two unlike paths that lead from one text to one root at width 1.
func twoPaths(t *testing.T, r *rand.Rand, b []byte, index, size uint64) (p, q []api.Digest) {
	t.Helper()
	for range 1 << 16 {
		p, q = somePath(r, heightOf(index, size)), somePath(r, heightOf(index, size))
		root, _ := ledTo(1, b, index, size, p)
		if p[0][0] != q[0][0] && wantedLeaf(1, b, index, size, q, root) {
			return p, q
		}
	}
	t.Fatalf("%d of %d: no two paths lead to one root", index, size)
	return nil, nil
}

// TestCollideOfNoText: P9.3 and R4, a nil text is one like others, and means what an empty one does.
func TestCollideOfNoText(t *testing.T) {
	want := hashed(1, leafText(nil))
	var b []byte
	for i := 0; b == nil; i++ {
		if x := fmt.Append(nil, i); hashed(1, leafText(x)) == want {
			b = x
		}
	}
	for _, none := range [][]byte{nil, {}, []byte("abc")[:0]} {
		for _, path := range [][]api.Digest{nil, {}} {
			x, y, ok := verify.Collide(1, none, b, 0, 1, path, nil)
			if !ok || !bytes.Equal(x, []byte{0}) || !bytes.Equal(y, leafText(b)) {
				t.Errorf("nothing and %s: %x, %x, %v", b, x, y, ok)
			}
			x, y, ok = verify.Collide(1, b, none, 0, 1, nil, path)
			if !ok || !bytes.Equal(x, leafText(b)) || !bytes.Equal(y, []byte{0}) {
				t.Errorf("%s and nothing: %x, %x, %v", b, x, y, ok)
			}
		}
	}
}

// TestCollideOfOtherPaths: P9.3, if one of both paths, or both, are too short or too long, nothing is told, though both lead to one hash.
func TestCollideOfOtherPaths(t *testing.T) {
	r := rand.New(rand.NewSource(936))
	a, b := twins(t, 1)
	for _, size := range sizes() {
		for _, index := range placesIn(size) {
			height := heightOf(index, size)
			path := somePath(r, height+300)
			for _, n := range []int{0, height - 1, height, height + 1, height + 2, height + 300} {
				for _, m := range []int{0, height - 1, height, height + 1, height + 300} {
					if n < 0 || m < 0 {
						continue
					}
					s := pair{1, a, b, index, size, path[:n], path[:m]}
					if n == height && m == height {
						wantTold(t, s, 0)
					} else {
						wantNothingTold(t, fmt.Sprintf("paths of %d and %d, not %d", n, m, height), s)
					}
				}
			}
		}
	}
}

// TestCollidePastTheEnd: P9.3, at an index that is not below the size nothing is told.
func TestCollidePastTheEnd(t *testing.T) {
	r := rand.New(rand.NewSource(937))
	a, b := twins(t, 1)
	for _, size := range append([]uint64{0}, sizes()...) {
		for _, index := range []uint64{size, size + 1, 2 * size, math.MaxUint64} {
			if index < size {
				continue
			}
			heights := []int{0, 1, 2, 63, 64, 65}
			if size > 0 {
				heights = append(heights, heightOf(size-1, size), heightOf(0, size))
			}
			for _, n := range heights {
				p := somePath(r, n)
				wantNothingTold(t, "past the end", pair{1, a, b, index, size, p, p})
			}
		}
	}
}

// TestCollideBehindTheWidth: P9.3, what stands in a path behind the width neither counts nor is told.
func TestCollideBehindTheWidth(t *testing.T) {
	r := rand.New(rand.NewSource(938))
	for _, c := range [][2]uint64{{0, 1}, {1, 2}, {4, 5}, {6, 7}, {100, 300}} {
		for step := range heightOf(c[0], c[1]) + 1 {
			s := meetingAt(t, r, c[0], c[1], step)
			x, y, _ := s.collide()
			for at := range s.p {
				for _, i := range []int{1, 2, 31} {
					other := s
					other.p, other.q = turnedAt(s.p, at, i), turnedAt(s.q, at, 32-i)
					u, v, ok := other.collide()
					if !ok || !bytes.Equal(x, u) || !bytes.Equal(y, v) {
						t.Fatalf("%v: hash %d turned at byte %d: %x, %x, %v", s, at, i, u, v, ok)
					}
				}
			}
		}
	}
}

// TestCollideAtOtherWidths: P9.3, ways that meet at width 1 alone are unlike ones at greater widths.
func TestCollideAtOtherWidths(t *testing.T) {
	r := rand.New(rand.NewSource(939))
	for _, c := range [][2]uint64{{0, 1}, {1, 2}, {4, 5}, {6, 7}, {100, 300}} {
		for step := range heightOf(c[0], c[1]) + 1 {
			s := meetingAt(t, r, c[0], c[1], step)
			for _, w := range []int{math.MinInt, -1, 0, 31, 32, 33, math.MaxInt} {
				s.width = w
				wantNothingTold(t, "unlike hashes", s)
			}
		}
	}
}

// TestCollideOfTurnedPaths: P9.3, with a hash of a path turned at one bit ahead of the width, just that is told which the other reckoning tells.
func TestCollideOfTurnedPaths(t *testing.T) {
	r := rand.New(rand.NewSource(940))
	for _, c := range [][2]uint64{{1, 2}, {4, 5}, {6, 7}, {100, 300}} {
		for step := range heightOf(c[0], c[1]) + 1 {
			s := meetingAt(t, r, c[0], c[1], step)
			for at := range s.p {
				for bit := range 8 {
					other := s
					other.q = slices.Clone(s.q)
					other.q[at][0] ^= 1 << bit
					wantAsReckoned(t, other)
					wantAsReckoned(t, other.turnedRound())
				}
			}
		}
	}
}

func wantAsReckoned(t *testing.T, s pair) bool {
	t.Helper()
	u, v, want := wantedTexts(s.width, s.a, s.b, s.index, s.size, s.p, s.q)
	x, y, ok := s.collide()
	if ok != want || !bytes.Equal(x, u) || !bytes.Equal(y, v) {
		t.Fatalf("%v: %x, %x: %x, %x, %v, not %x, %x, %v", s, s.p, s.q, x, y, ok, u, v, want)
	}
	return ok
}

// TestCollideAtRandom: P9.3, of anything at all just that is told which the other reckoning tells.
func TestCollideAtRandom(t *testing.T) {
	r := rand.New(rand.NewSource(941))
	told := 0
	for range 60000 {
		n := r.Intn(4)
		s := pair{1, someBytes(r, r.Intn(3)), someBytes(r, r.Intn(3)), uint64(r.Intn(7)), uint64(r.Intn(8)), somePath(r, n), somePath(r, n)}
		switch r.Intn(6) {
		case 0:
			s.q = slices.Clone(s.p)
		case 1:
			s.q = somePath(r, r.Intn(4))
		}
		if wantAsReckoned(t, s) {
			told++
		}
	}
	if told < 20 {
		t.Errorf("only %d are told: the test tells too little", told)
	}
}
