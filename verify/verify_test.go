package verify_test

import (
	"bytes"
	"crypto/sha256"
	"fmt"
	"math"
	"math/bits"
	"math/rand"
	"slices"
	"testing"

	"deponent/api"
	"deponent/merkle"
	"deponent/verify"
)

// widths are those at which something changes.
var widths = []int{math.MinInt, -1, 0, 1, 2, 31, 32, 33, math.MaxInt}

// counting says which width a width counts as.
func counting(width int) int {
	switch {
	case width <= 0, width >= 33:
		return 32
	}
	return width
}

// hashed is the library's SHA-256 of text, with noughts behind the width.
func hashed(width int, text []byte) api.Digest {
	return shortened(width, api.Digest(sha256.Sum256(text)))
}

// shortened has noughts behind the width.
func shortened(width int, whole api.Digest) api.Digest {
	var d api.Digest
	copy(d[:], whole[:counting(width)])
	return d
}

func leafText(b []byte) []byte { return append([]byte{0}, b...) }

func nodeText(width int, a, b api.Digest) []byte {
	n := counting(width)
	return slices.Concat([]byte{1}, a[:n], b[:n])
}

func hashedNode(width int, a, b api.Digest) api.Digest { return hashed(width, nodeText(width, a, b)) }

// parting is the greatest power of two below size, which is 2 at least.
func parting(size uint64) uint64 { return 1 << (bits.Len64(size-1) - 1) }

// led tells what is hashed on the way up in another way than the chapter does: from the root down, as a list is parted into the first k and the others, and the last hash of the path is the root of the part that the leaf is not in. What is hashed at the leaf stands first. It is false, if the path is another one than that of such a leaf.
func led(width int, b []byte, index, size uint64, path []api.Digest) ([][]byte, bool) {
	if index >= size {
		return nil, false
	}
	if size == 1 {
		return [][]byte{leafText(b)}, len(path) == 0
	}
	if len(path) == 0 {
		return nil, false
	}
	k, n := parting(size), len(path)-1
	if index < k {
		steps, ok := led(width, b, index, k, path[:n])
		if !ok {
			return nil, false
		}
		return append(steps, nodeText(width, hashed(width, steps[len(steps)-1]), path[n])), true
	}
	steps, ok := led(width, b, index-k, size-k, path[:n])
	if !ok {
		return nil, false
	}
	return append(steps, nodeText(width, path[n], hashed(width, steps[len(steps)-1]))), true
}

// ledTo is the root that a path leads to.
func ledTo(width int, b []byte, index, size uint64, path []api.Digest) (api.Digest, bool) {
	steps, ok := led(width, b, index, size, path)
	if !ok {
		return api.Digest{}, false
	}
	return hashed(width, steps[len(steps)-1]), true
}

func wantedLeaf(width int, b []byte, index, size uint64, path []api.Digest, root api.Digest) bool {
	top, ok := ledTo(width, b, index, size, path)
	return ok && top == shortened(width, root)
}

// heightOf is how many hashes the path of a leaf has.
func heightOf(index, size uint64) int {
	if size == 1 {
		return 0
	}
	k := parting(size)
	if index < k {
		return 1 + heightOf(index, k)
	}
	return 1 + heightOf(index-k, size-k)
}

// grown tells both roots in another way than the chapter does: from the root of all leaves down, as chapter 8 makes the proof (SUBPROOF). It is false, if the path is another one than that of such a proof.
func grown(width int, from, to uint64, old api.Digest, path []api.Digest, known bool) (was, is api.Digest, ok bool) {
	if from == to && known {
		d := shortened(width, old)
		return d, d, len(path) == 0
	}
	if len(path) == 0 {
		return was, is, false
	}
	n := len(path) - 1
	last := shortened(width, path[n])
	if from == to {
		return last, last, n == 0
	}
	k := parting(to)
	if from <= k {
		was, is, ok = grown(width, from, k, old, path[:n], known)
		return was, hashedNode(width, is, last), ok
	}
	was, is, ok = grown(width, from-k, to-k, old, path[:n], false)
	return hashedNode(width, last, was), hashedNode(width, last, is), ok
}

func wantedPrefix(width int, from, to uint64, old, root api.Digest, path []api.Digest) bool {
	if from == 0 || from > to {
		return false
	}
	was, is, ok := grown(width, from, to, old, path, true)
	return ok && was == shortened(width, old) && is == shortened(width, root)
}

// growthOf is how many hashes the proof of a beginning has.
func growthOf(from, to uint64, known bool) int {
	if from == to {
		if known {
			return 0
		}
		return 1
	}
	k := parting(to)
	if from <= k {
		return 1 + growthOf(from, k, known)
	}
	return 1 + growthOf(from-k, to-k, false)
}

// wantedTexts goes by the words of the chapter: the first step at which what is hashed is unlike and what comes of it is one.
func wantedTexts(width int, a, b []byte, index, size uint64, p, q []api.Digest) ([]byte, []byte, bool) {
	root, ok := ledTo(width, a, index, size, p)
	if !ok || bytes.Equal(a, b) || !wantedLeaf(width, b, index, size, q, root) {
		return nil, nil, false
	}
	steps, _ := led(width, a, index, size, p)
	others, _ := led(width, b, index, size, q)
	for i, x := range steps {
		if y := others[i]; !bytes.Equal(x, y) && hashed(width, x) == hashed(width, y) {
			return x, y, true
		}
	}
	return nil, nil, false
}

func someBytes(r *rand.Rand, n int) []byte {
	b := make([]byte, n)
	r.Read(b)
	return b
}

// someDigest has a byte other than 0 at each place, those behind every width too.
func someDigest(r *rand.Rand) api.Digest {
	d := api.Digest(someBytes(r, 32))
	for i := range d {
		d[i] = max(d[i], 1)
	}
	return d
}

func somePath(r *rand.Rand, n int) []api.Digest {
	var p []api.Digest
	for range n {
		p = append(p, someDigest(r))
	}
	return p
}

// turned is d with one bit of one byte turned.
func turned(d api.Digest, i int) api.Digest {
	d[i] ^= 1 << (i % 8)
	return d
}

// turnedAt is a copy of path with one bit of one hash turned.
func turnedAt(path []api.Digest, at, i int) []api.Digest {
	other := slices.Clone(path)
	other[at] = turned(other[at], i)
	return other
}

// listOf answers n unlike leaves.
func listOf(n int) [][]byte {
	var l [][]byte
	for i := range n {
		l = append(l, fmt.Append(nil, "leaf ", i))
	}
	return l
}

// mixedOf answers n leaves of many lengths, of which some are nil, some empty, and some alike.
func mixedOf(r *rand.Rand, n int) [][]byte {
	l := make([][]byte, n)
	for i := range l {
		switch r.Intn(4) {
		case 0:
		case 1:
			l[i] = []byte{}
		case 2:
			l[i] = someBytes(r, 1+r.Intn(api.MaxLeaf))
		case 3:
			l[i] = l[r.Intn(i+1)]
		}
	}
	return l
}

// farSizes are far beyond any list, up to the end of their kind.
var farSizes = []uint64{
	1<<31 - 1, 1 << 31, 1<<31 + 1, 1<<32 - 1, 1 << 32, 1<<32 + 1, 1<<62 + 1<<31 + 1,
	1<<63 - 1, 1 << 63, 1<<63 + 1, 1<<63 + 1<<62, math.MaxUint64 - 1, math.MaxUint64,
}

// sizes are all small ones, those about powers of two, some hundreds, and farSizes.
func sizes() []uint64 {
	var l []uint64
	for n := uint64(1); n < 20; n++ {
		l = append(l, n)
	}
	l = append(l, 31, 32, 33, 63, 64, 65, 127, 128, 129, 255, 256, 257, 300, 511, 512, 513, 777, 1023, 1024, 1025)
	return append(l, farSizes...)
}

// placesIn answers all places below a small size, and of a greater one those about its ends, its parting, and some others.
func placesIn(size uint64) []uint64 {
	var l []uint64
	if size < 20 {
		for i := range size {
			l = append(l, i)
		}
		return l
	}
	k := parting(size)
	l = []uint64{0, 1, size / 3, k - 1, size/5*4 + 1, size - 2, size - 1}
	if k < size-2 {
		l = append(l, k, k+(size-k)/2)
	}
	return l
}

// widthsAt answers all widths for a small size, and for a greater one a narrow and a wide one, others for each place.
func widthsAt(index, size uint64) []int {
	if size < 20 {
		return widths
	}
	wide := []int{math.MinInt, -1, 0, 31, 32, 33, math.MaxInt}
	return []int{1 + int(index%2), wide[(index+size)%7]}
}

// someOf answers all numbers below n, if there are not many, else some, the first and the last ones among them.
func someOf(n int) []int {
	var l []int
	for i := range n {
		if i < 4 || n-i < 4 || i%11 == 0 {
			l = append(l, i)
		}
	}
	return l
}

// TestRuns: the chapter's runs, at each width.
func TestRuns(t *testing.T) {
	r := rand.New(rand.NewSource(91))
	for _, w := range widths {
		for _, b := range [][]byte{nil, {}, {0}, {1}, []byte("abc"), someBytes(r, 300)} {
			for _, none := range [][]api.Digest{nil, {}, somePath(r, 2)[:0]} {
				if !verify.Leaf(w, b, 0, 1, none, hashed(w, leafText(b))) {
					t.Errorf("width %d: the only leaf %x is not taken", w, b)
				}
			}
			for _, n := range []int{1, 2, 3, 64, 65, 400} {
				if verify.Leaf(w, b, 0, 1, somePath(r, n), hashed(w, leafText(b))) {
					t.Errorf("width %d: the only leaf %x is taken with %d hashes", w, b, n)
				}
			}
		}
		root := someDigest(r)
		if !verify.Prefix(w, 1, 1, root, root, nil) || verify.Prefix(w, 0, 1, root, root, nil) {
			t.Errorf("width %d: Prefix from 1 to 1, from 0 to 1", w)
		}
	}
	a, b := twins(t, 1)
	x, y, ok := verify.Collide(1, a, b, 0, 1, nil, nil)
	if !ok || !bytes.Equal(x, leafText(a)) || !bytes.Equal(y, leafText(b)) {
		t.Errorf("two texts whose Leaf is one: %x, %x, %v", x, y, ok)
	}
}

// TestExamples: the chapter's examples.
func TestExamples(t *testing.T) {
	l := listOf(3)
	for _, w := range []int{1, 2, 5, 31} {
		p, _ := merkle.Prove(w, l, 1)
		for i := range p {
			p[i][31] = 0xff
		}
		if !verify.Leaf(w, l[1], 1, 3, p, merkle.Root(w, l)) {
			t.Errorf("width %d: a path is not cut", w)
		}
	}
	for _, w := range widths {
		root, other := api.Digest{7}, api.Digest{8}
		if verify.Prefix(w, 2, 2, root, other, nil) || !verify.Prefix(w, 2, 2, root, root, nil) {
			t.Errorf("width %d: Prefix from 2 to 2", w)
		}
		for _, index := range []uint64{0, 1, math.MaxUint64} {
			for n := range 3 {
				if verify.Leaf(w, nil, index, 0, make([]api.Digest, n), hashed(w, nil)) {
					t.Errorf("width %d: size 0, index %d, %d hashes: taken", w, index, n)
				}
			}
		}
	}
}
