package verify_test

import (
	"bytes"
	"fmt"
	"math"
	"math/rand"
	"slices"
	"testing"

	"deponent/api"
	"deponent/verify"
)

// roomy answers a list with l in it and room behind it, and the whole of its memory.
func roomy[T any](l []T, room ...T) (list, whole []T) {
	whole = slices.Concat(l, room, room, room)
	return whole[:len(l)], whole
}

// handed is a pair all of whose lists have room behind them.
type handed struct {
	pair
	wholeA, wholeB []byte
	wholeP, wholeQ []api.Digest
}

func handedOf(s pair) handed {
	h := handed{pair: s}
	h.a, h.wholeA = roomy(s.a, 0xa5, 0x5a)
	h.b, h.wholeB = roomy(s.b, 0xa5, 0x5a)
	h.p, h.wholeP = roomy(s.p, api.Digest{0xa5}, api.Digest{0x5a})
	h.q, h.wholeQ = roomy(s.q, api.Digest{0xa5}, api.Digest{0x5a})
	return h
}

func (h handed) is(other handed) bool {
	return bytes.Equal(h.wholeA, other.wholeA) && bytes.Equal(h.wholeB, other.wholeB) && slices.Equal(h.wholeP, other.wholeP) && slices.Equal(h.wholeQ, other.wholeQ)
}

// spoil changes all that h has.
func (h handed) spoil() {
	for _, b := range [][]byte{h.wholeA, h.wholeB} {
		for i := range b {
			b[i] ^= 0x77
		}
	}
	for _, p := range [][]api.Digest{h.wholeP, h.wholeQ} {
		for i := range p {
			p[i][0] ^= 0x77
		}
	}
}

// answers tells what all calls answer.
func (h handed) answers() string {
	told := ""
	root, _ := ledTo(h.width, h.a, h.index, h.size, h.p)
	for _, path := range [][]api.Digest{h.p, h.q, h.p[:len(h.p)/2]} {
		told += fmt.Sprint(verify.Leaf(h.width, h.a, h.index, h.size, path, root), verify.Leaf(h.width, h.b, h.index, h.size, path, root), ";")
		for _, from := range []uint64{0, 1, 2, 3, h.size - 1, h.size, h.size + 1} {
			was, is, _ := grown(h.width, max(min(from, h.size), 1), h.size, root, path, true)
			told += fmt.Sprint(verify.Prefix(h.width, from, h.size, was, is, path), verify.Prefix(h.width, from, h.size, root, is, path), ";")
		}
	}
	x, y, ok := h.collide()
	return told + fmt.Sprintf("%x %x %v", x, y, ok)
}

// somePairs are such as are told at each step, and such as are not.
func somePairs(t *testing.T, seed int64) []pair {
	r := rand.New(rand.NewSource(seed))
	var l []pair
	for _, c := range [][2]uint64{{0, 1}, {0, 2}, {1, 2}, {2, 3}, {3, 7}, {6, 7}, {0, 8}, {200, 300}, {0, math.MaxUint64}} {
		height := heightOf(c[0], c[1])
		for _, step := range someOf(height + 1) {
			s := meetingAt(t, r, c[0], c[1], step)
			other := s
			other.q = somePath(r, height)
			long := s
			long.q = append(slices.Clone(s.q), someDigest(r))
			l = append(l, s, s.turnedRound(), other, long, long.turnedRound())
		}
	}
	return l
}

// TestHandedInIsLeft: R2, no call changes a text, a path, nor the room behind them, be it true or false.
func TestHandedInIsLeft(t *testing.T) {
	for _, s := range somePairs(t, 961) {
		for _, w := range widths {
			s.width = w
			h := handedOf(s)
			h.answers()
			if !h.is(handedOf(s)) {
				t.Fatalf("%v: what was handed in was changed", s)
			}
		}
	}
}

// TestHandedInIsNotKept: R2 and R4, neither what was told nor later answers hang on what was handed in earlier, nor on its room.
func TestHandedInIsNotKept(t *testing.T) {
	for _, s := range somePairs(t, 962) {
		h, twin, tight := handedOf(s), handedOf(s), handed{pair: s}
		want := h.answers()
		x, y, _ := h.collide()
		was, other := bytes.Clone(x), bytes.Clone(y)
		h.spoil()
		if !bytes.Equal(x, was) || !bytes.Equal(y, other) {
			t.Fatalf("%v: what was told hangs on what was handed in", s)
		}
		h.answers()
		if twin.answers() != want || tight.answers() != want {
			t.Fatalf("%v: an answer hangs on an earlier call, or on room", s)
		}
	}
}

// TestToldIsNew: R2, both texts are memory of their own, their spare room too: changed, neither what was handed in, nor the other text, nor a later answer is.
func TestToldIsNew(t *testing.T) {
	for _, s := range somePairs(t, 963) {
		h := handedOf(s)
		x, y, _ := h.collide()
		was, other := bytes.Clone(x[:cap(x)]), bytes.Clone(y[:cap(y)])
		length, otherLength := len(x), len(y)
		for i := range x[:cap(x)] {
			x[:cap(x)][i] ^= 0xff
		}
		if !bytes.Equal(y[:cap(y)], other) {
			t.Fatalf("%v: both texts share memory", s)
		}
		for i := range y[:cap(y)] {
			y[:cap(y)][i] ^= 0xff
		}
		u, v, _ := h.collide()
		if !h.is(handedOf(s)) || !bytes.Equal(u, was[:length]) || !bytes.Equal(v, other[:otherLength]) {
			t.Fatalf("%v: what was told shares memory", s)
		}
	}
}

// TestSharedMemory: R2, texts and paths that lie over one another are like others.
func TestSharedMemory(t *testing.T) {
	room := []byte("abcdefghabcdefgh")
	told := 0
	for i := range room {
		for j := range room {
			a, b := room[:i], room[j:]
			s := pair{1, a, b, 1, 2, []api.Digest{{3}}, nil}
			s.q = s.p
			apart := s
			apart.a, apart.b, apart.q = bytes.Clone(a), bytes.Clone(b), slices.Clone(s.q)
			x, y, ok := s.collide()
			u, v, same := apart.collide()
			if !bytes.Equal(x, u) || !bytes.Equal(y, v) || ok != same {
				t.Fatalf("%v: told otherwise where memory is shared", s)
			}
			wantAsReckoned(t, s)
			if ok {
				told++
			}
		}
	}
	if string(room) != "abcdefghabcdefgh" {
		t.Errorf("what was handed in was changed: %s", room)
	}
	if told == 0 {
		t.Error("nothing is told: the test tells too little")
	}
}

// TestNoPanic: R1, every call ends, whatever it is given.
func TestNoPanic(t *testing.T) {
	r := rand.New(rand.NewSource(964))
	ends := append([]uint64{0, 1, 2, 3, 300}, farSizes...)
	paths := [][]api.Digest{nil, {}, somePath(r, 1), somePath(r, 2), somePath(r, 63), somePath(r, 64), somePath(r, 65), make([]api.Digest, 700)}
	for _, w := range widths {
		for _, m := range ends {
			for _, n := range ends {
				for i, path := range paths {
					root := someDigest(r)
					want := wantedLeaf(w, nil, m, n, path, root)
					if verify.Leaf(w, nil, m, n, path, root) != want {
						t.Fatalf("width %d, %d of %d, %d hashes", w, m, n, len(path))
					}
					want = wantedPrefix(w, m, n, root, root, path)
					if verify.Prefix(w, m, n, root, root, path) != want {
						t.Fatalf("width %d, from %d to %d, %d hashes", w, m, n, len(path))
					}
					wantAsReckoned(t, pair{w, nil, []byte("b"), m, n, path, paths[(i+1)%len(paths)]})
				}
			}
		}
	}
}

// TestLongPathsEndEarly: R1, of a path far too long no more is gone through than a way up has, so that it costs nothing.
func TestLongPathsEndEarly(t *testing.T) {
	long := make([]api.Digest, 1<<20)
	for range 200 {
		if verify.Leaf(32, nil, 1<<63, math.MaxUint64, long, api.Digest{}) || verify.Prefix(32, 1<<63, math.MaxUint64, api.Digest{}, api.Digest{}, long) {
			t.Fatal("a path far too long is taken")
		}
		if x, y, ok := verify.Collide(32, nil, []byte("b"), 0, math.MaxUint64, long, long); len(x) != 0 || len(y) != 0 || ok {
			t.Fatal("of paths far too long something is told")
		}
	}
}

// TestLongTexts: R1, texts far beyond a leaf's length are taken and told like others.
func TestLongTexts(t *testing.T) {
	a, b := make([]byte, 100000), make([]byte, 100001)
	want := hashed(1, leafText(a))
	for i := 0; hashed(1, leafText(b)) != want; i++ {
		b[0], b[1] = byte(i), byte(i>>8)
	}
	p := []api.Digest{{5}}
	wantTold(t, pair{1, a, b, 1, 2, p, p}, 0)
}
