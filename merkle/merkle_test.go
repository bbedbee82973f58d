package merkle_test

import (
	"bytes"
	"crypto/sha256"
	"encoding/hex"
	"fmt"
	"math"
	"math/rand"
	"slices"
	"strings"
	"testing"

	"deponent/api"
	"deponent/merkle"
)

// widths are all that count as themselves, and those about and far beyond their ends.
var widths = []int{
	math.MinInt, math.MinInt + 1, math.MinInt32, -33, -32, -2, -1, 0,
	1, 2, 3, 4, 5, 6, 7, 8, 9, 10, 11, 12, 13, 14, 15, 16, 17, 18, 19, 20, 21, 22, 23, 24, 25, 26, 27, 28, 29, 30, 31, 32,
	33, 34, 63, 64, 65, 255, 256, 257, 256 + 5, 1<<16 + 5, 1<<32 + 5, math.MaxInt32, math.MaxInt - 1, math.MaxInt,
}

// edgeWidths are those of widths at which something changes.
var edgeWidths = []int{math.MinInt, -1, 0, 1, 2, 31, 32, 33, math.MaxInt}

// counting says which width a width counts as.
func counting(width int) int {
	switch {
	case width <= 0, width >= 33:
		return 32
	}
	return width
}

// hashed is the library's SHA-256 of text, with noughts behind the width.
func hashed(width int, text []byte) api.Digest {
	whole := sha256.Sum256(text)
	var d api.Digest
	copy(d[:], whole[:counting(width)])
	return d
}

func hashedLeaf(width int, b []byte) api.Digest {
	return hashed(width, append([]byte{0}, b...))
}

func hashedNode(width int, a, b api.Digest) api.Digest {
	n := counting(width)
	text := []byte{1}
	text = append(text, a[:n]...)
	text = append(text, b[:n]...)
	return hashed(width, text)
}

func digest(t *testing.T, text string) api.Digest {
	t.Helper()
	b, err := hex.DecodeString(strings.ReplaceAll(text, " ", ""))
	if err != nil || len(b) != 32 {
		t.Fatalf("no digest: %q", text)
	}
	return api.Digest(b)
}

func someBytes(r *rand.Rand, n int) []byte {
	b := make([]byte, n)
	r.Read(b)
	return b
}

// someDigest has bytes behind every width but 32.
func someDigest(r *rand.Rand) api.Digest {
	d := api.Digest(someBytes(r, 32))
	for i := range d {
		d[i] |= 1
	}
	return d
}

// listOf answers n unlike leaves.
func listOf(n int) [][]byte {
	var l [][]byte
	for i := range n {
		l = append(l, fmt.Append(nil, "leaf ", i))
	}
	return l
}

// mixedOf answers n leaves of many lengths, of which some are nil, some empty, and some alike.
func mixedOf(r *rand.Rand, n int) [][]byte {
	l := make([][]byte, n)
	for i := range l {
		switch r.Intn(6) {
		case 0:
		case 1:
			l[i] = []byte{}
		case 2:
			l[i] = []byte{byte(r.Intn(2))}
		case 3:
			l[i] = someBytes(r, 1+r.Intn(api.MaxLeaf))
		case 4:
			l[i] = someBytes(r, 65)
			l[i][0] = 1
		case 5:
			l[i] = l[r.Intn(i+1)]
		}
	}
	return l
}

// texts are leaves that the document names, and such as look like what is hashed.
func texts(r *rand.Rand) [][]byte {
	l := [][]byte{nil, {}, {0}, {1}, {0, 0}, {0, 1}, {1, 0}, {1, 1}, []byte("abc")}
	for _, n := range []int{31, 32, 33, 53, 54, 55, 56, 62, 63, 64, 65, 118, 119, 127, 128, 255, 256, 257, 4096, 100000} {
		l = append(l, make([]byte, n), bytes.Repeat([]byte{0xff}, n), someBytes(r, n))
	}
	return l
}

func wantBehindWidth(t *testing.T, what string, width int, d api.Digest) {
	t.Helper()
	for _, b := range d[counting(width):] {
		if b != 0 {
			t.Fatalf("%s: width %d: %x", what, width, d)
		}
	}
}

// TestLeafRuns: P8.1, the runs of the chapter.
func TestLeafRuns(t *testing.T) {
	want := digest(t, "6e340b9c ffb37a98 9ca544e6 bb780a2c 78901d3f b3373876 8511a306 17afa01d")
	for _, b := range [][]byte{nil, {}} {
		if got := merkle.Leaf(32, b); got != want {
			t.Errorf("Leaf of nothing: %x", got)
		}
		if got := merkle.Leaf(0, b); got != want {
			t.Errorf("width 0: Leaf of nothing: %x", got)
		}
	}
}

// TestLeaf: P8.1, a Leaf is the cut hash of a byte 0 and the text, at every width.
func TestLeaf(t *testing.T) {
	for _, b := range texts(rand.New(rand.NewSource(81))) {
		these := widths
		if len(b) > 300 {
			these = edgeWidths
		}
		for _, w := range these {
			got := merkle.Leaf(w, b)
			if want := hashedLeaf(w, b); got != want {
				t.Fatalf("width %d, %d bytes: %x, not %x", w, len(b), got, want)
			}
			wantBehindWidth(t, "Leaf", w, got)
		}
	}
}

// TestNode: P8.1, a Node is the cut hash of a byte 1 and of as much of both digests as the width has, in their order.
func TestNode(t *testing.T) {
	r := rand.New(rand.NewSource(82))
	zero, full := api.Digest{}, api.Digest(bytes.Repeat([]byte{0xff}, 32))
	pairs := [][2]api.Digest{{zero, zero}, {zero, full}, {full, zero}, {full, full}}
	for range 20 {
		a, b := someDigest(r), someDigest(r)
		pairs = append(pairs, [2]api.Digest{a, b}, [2]api.Digest{b, a}, [2]api.Digest{a, a})
	}
	for _, p := range pairs {
		for _, w := range widths {
			got := merkle.Node(w, p[0], p[1])
			if want := hashedNode(w, p[0], p[1]); got != want {
				t.Fatalf("width %d: %x, not %x", w, got, want)
			}
			wantBehindWidth(t, "Node", w, got)
		}
	}
}

// TestNodeBehindWidth: P8.1, each byte below the width counts, and none behind it.
func TestNodeBehindWidth(t *testing.T) {
	r := rand.New(rand.NewSource(83))
	for _, w := range widths {
		if counting(w) < 8 {
			continue // hashes so short may meet
		}
		a, b := someDigest(r), someDigest(r)
		was := merkle.Node(w, a, b)
		for i := range 32 {
			x, y := a, b
			x[i] ^= 0x40
			y[i] ^= 0x40
			counts := i < counting(w)
			if (merkle.Node(w, x, b) != was) != counts || (merkle.Node(w, a, y) != was) != counts {
				t.Errorf("width %d: byte %d", w, i)
			}
		}
	}
	for _, w := range []int{1, 2, 3, 5, 7} {
		a, b := someDigest(r), someDigest(r)
		was := merkle.Node(w, a, b)
		for i := w; i < 32; i++ {
			x, y := a, b
			x[i] ^= 0x40
			y[i] ^= 0x40
			if merkle.Node(w, x, y) != was {
				t.Errorf("width %d: byte %d", w, i)
			}
		}
	}
}

// TestLeavesAreNoNodes: W4, a leaf whose text is what a node is made of has another hash.
func TestLeavesAreNoNodes(t *testing.T) {
	r := rand.New(rand.NewSource(84))
	for _, w := range []int{8, 16, 31, 32} {
		a, b := merkle.Leaf(w, someBytes(r, 9)), merkle.Leaf(w, someBytes(r, 9))
		both := slices.Concat(a[:w], b[:w])
		node := merkle.Node(w, a, b)
		for _, text := range [][]byte{both, append([]byte{0}, both...), append([]byte{1}, both...)} {
			if merkle.Leaf(w, text) == node || merkle.Root(w, [][]byte{text}) == node {
				t.Errorf("width %d: the leaf %x has the hash of a node", w, text)
			}
		}
	}
}
