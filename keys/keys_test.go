package keys_test

import (
	"crypto/hmac"
	"crypto/sha256"
	"encoding/binary"
	"encoding/hex"
	"math"
	"math/bits"
	"math/rand"
	"slices"
	"testing"

	"deponent/api"
	"deponent/keys"
)

const half = 1 << (bits.UintSize / 2)

// noTrees are numbers of no tree: about the ends, at the ends of int, and those whose lowest bytes are a tree's.
var noTrees = []int{
	-1, -2, -16, -255, -256, api.MaxTrees, api.MaxTrees + 1, 127, 128, 255, 256, 257, 271,
	half, half + 1, -half, -half + 1, math.MinInt32, math.MaxInt32, math.MinInt, math.MinInt + 1, math.MaxInt - 1, math.MaxInt,
}

// numbers are those about which bytes of a number change, at its ends, and below 0.
var numbers = []int{
	0, 1, 2, 15, 16, 31, 32, 127, 128, 255, 256, 257, 65535, 65536, 0x01020304, math.MaxInt32 - 1, math.MaxInt32, half - 1, half, half + 1,
	math.MaxInt - 1, math.MaxInt, -1, -2, -255, -256, -257, math.MinInt32, -half, math.MinInt + 1, math.MinInt,
}

// counts are sizes and clocks: those about which bytes of a number change, and at its ends.
var counts = []uint64{0, 1, 2, 255, 256, 65535, 65536, 1 << 24, math.MaxUint32, 1 << 32, 1 << 40, 1 << 48, 1 << 56, 0x0102030405060708, math.MaxInt64, 1 << 63, math.MaxUint64 - 1, math.MaxUint64}

var draws = []uint32{0, 1, 255, 256, 1 << 16, 1 << 24, 0x01020304, math.MaxInt32, 1 << 31, math.MaxUint32 - 1, math.MaxUint32}

// seeds are of the lengths about which a Mac takes its key otherwise.
func seeds() [][]byte {
	l := [][]byte{nil, {}}
	for _, n := range []int{1, 4, 31, 32, 33, 63, 64, 65, 66, 200} {
		b := make([]byte, n)
		rand.New(rand.NewSource(int64(n))).Read(b)
		l = append(l, b)
	}
	return append(l, make([]byte, 64), make([]byte, 65))
}

// roots are digests: of noughts, full, with unlike bytes, and with one byte at each end.
func roots() []api.Digest {
	var full, unlike api.Digest
	for i := range full {
		full[i], unlike[i] = 0xff, byte(i+1)
	}
	return []api.Digest{{}, full, unlike, {0: 1}, {31: 1}}
}

// heads have each field at its ends by itself, and all of them.
func heads() []api.Head {
	var l []api.Head
	unlike := roots()[2]
	for _, n := range numbers {
		l = append(l, api.Head{Tree: n}, api.Head{Epoch: n}, api.Head{Tree: 3, Epoch: n, Size: 5, Clock: 6, Root: unlike}, api.Head{Tree: n, Epoch: 4, Size: 5, Clock: 6, Root: unlike})
	}
	for _, n := range counts {
		l = append(l, api.Head{Size: n}, api.Head{Clock: n}, api.Head{Tree: 3, Epoch: 4, Size: n, Clock: ^n, Root: unlike})
	}
	for _, d := range roots() {
		l = append(l, api.Head{Root: d}, api.Head{Tree: 255, Epoch: math.MaxInt, Size: math.MaxUint64, Clock: math.MaxUint64, Root: d})
	}
	return l
}

// wantedMac is the library's.
func wantedMac(key, b []byte) api.Digest {
	h := hmac.New(sha256.New, key)
	h.Write(b)
	return api.Digest(h.Sum(nil))
}

func wantedKey(seed []byte, tree, epoch int, draw uint32) api.Digest {
	b := append([]byte("key"), byte(tree))
	b = binary.BigEndian.AppendUint32(b, uint32(epoch))
	return wantedMac(seed, binary.BigEndian.AppendUint32(b, draw))
}

func wantedBytes(h api.Head) []byte {
	b := append([]byte("head"), byte(h.Tree))
	b = binary.BigEndian.AppendUint32(b, uint32(h.Epoch))
	b = binary.BigEndian.AppendUint64(b, h.Size)
	b = binary.BigEndian.AppendUint64(b, h.Clock)
	return append(b, h.Root[:]...)
}

func wantedSigned(key api.Digest, h api.Head) api.Signed {
	return api.Signed{Head: h, Tag: wantedMac(key[:], wantedBytes(h))}
}

func known(t *testing.T, text string) api.Digest {
	t.Helper()
	b, err := hex.DecodeString(text)
	if err != nil || len(b) != 32 {
		t.Fatalf("no digest: %q", text)
	}
	return api.Digest(b)
}

func someDigest(r *rand.Rand) api.Digest {
	var d api.Digest
	r.Read(d[:])
	return d
}

func someHead(r *rand.Rand, tree int) api.Head {
	return api.Head{Tree: tree, Epoch: numbers[r.Intn(len(numbers))], Size: r.Uint64(), Clock: r.Uint64(), Root: someDigest(r)}
}

// pick is one of a list.
func pick[T any](r *rand.Rand, l []T) T { return l[r.Intn(len(l))] }

func mustTurn(t *testing.T, r *keys.Ring, tree int, draw uint32, want int) {
	t.Helper()
	if n, why := r.Turn(tree, draw); n != want || why != api.OK {
		t.Fatalf("Turn(%d, %d): %d, %v, not %d", tree, draw, n, why, want)
	}
}

func mustSign(t *testing.T, r *keys.Ring, h api.Head) api.Signed {
	t.Helper()
	s, why := r.Sign(h)
	if why != api.OK {
		t.Fatalf("Sign(%+v): %v", h, why)
	}
	return s
}

// wantEpoch asks for an epoch's number, or, if it is below 0, for none.
func wantEpoch(t *testing.T, r *keys.Ring, tree, want int) {
	t.Helper()
	n, ok := r.Epoch(tree)
	if want < 0 && (n != 0 || ok) || want >= 0 && (n != want || !ok) {
		t.Fatalf("Epoch(%d): %d, %v, not %d", tree, n, ok, want)
	}
}

// wantNoHead asks that a Sign is refused, and that nothing stands beside it.
func wantNoHead(t *testing.T, r *keys.Ring, h api.Head, want api.Errno) {
	t.Helper()
	if s, why := r.Sign(h); s != (api.Signed{}) || why != want {
		t.Fatalf("Sign(%+v): %+v, %v, not %v", h, s, why, want)
	}
}

// TestRuns: the chapter's runs.
func TestRuns(t *testing.T) {
	r := keys.NewRing([]byte("seed"))
	mustTurn(t, r, 1, 5, 0)
	s := mustSign(t, r, api.Head{Tree: 1, Size: 4, Clock: 9, Root: roots()[2]})
	if s.Head.Epoch != 0 || !r.Holds(s) {
		t.Errorf("of the first epoch: %+v", s)
	}
	mustTurn(t, r, 1, 6, 1)
	if !r.Holds(s) {
		t.Errorf("of the first epoch, behind the second: %+v", s)
	}
	wantNoHead(t, r, api.Head{Tree: 2}, api.ErrNone)
}

// TestExamples: the chapter's examples.
func TestExamples(t *testing.T) {
	r := keys.NewRing([]byte("seed"))
	wantEpoch(t, r, -1, -1)
	mustTurn(t, r, 1, 5, 0)
	mustTurn(t, r, 2, 5, 0)
	wantEpoch(t, r, -1, -1)
	s := mustSign(t, r, api.Head{Tree: 1, Size: 4})
	s.Head.Tree = 2
	if r.Holds(s) {
		t.Error("another tree's holds")
	}
	for _, h := range heads() {
		if n := len(keys.Bytes(h)); n != 57 {
			t.Errorf("Bytes(%+v) has %d bytes", h, n)
		}
	}
}

// TestKnown: answers that another program's HMAC has reckoned.
func TestKnown(t *testing.T) {
	seed := []byte("seed")
	full := slices.Repeat([]byte{0x41}, 65)
	for _, c := range []struct {
		seed        []byte
		tree, epoch int
		draw        uint32
		want        string
	}{
		{seed, 1, 0, 5, "b5c42f14bf519d4b1e5ce8328dbe007c378442d66ecf35f1508c641b3c02a587"},
		{seed, 1, 1, 6, "1b8d11b2c11057c590d3542e8b8319af831362d4149f1a3d4bcb8862b02fae0a"},
		{nil, 0, 0, 0, "c7dcb7b2e85e2700fb76853757bcf4ada4e4477e30967d77c3fe4b04766e6f9f"},
		{full[:64], 15, 31, math.MaxUint32, "81fa3ccf6011c10ea883e62d016e339df3d347047f81b2666639a033b2a9123d"},
		{full, 15, 31, math.MaxUint32, "de84259e8842523af590a8df9fcafff6e6c9ab42d73270da436e4904f8a2fba0"},
		{seed, -1, -1, math.MaxUint32, "987df453a9b76c3c045b55c4e1d333bd7c5d215588e2c3ce6d0f78e18e7c5cf4"},
	} {
		if got := keys.Key(c.seed, c.tree, c.epoch, c.draw); got != known(t, c.want) {
			t.Errorf("Key(%q, %d, %d, %d): %x, not %s", c.seed, c.tree, c.epoch, c.draw, got, c.want)
		}
	}
	h := api.Head{Tree: 1, Size: 4, Clock: 9}
	for i := range h.Root {
		h.Root[i] = byte(i)
	}
	r := keys.NewRing(seed)
	mustTurn(t, r, 1, 5, 0)
	if s := mustSign(t, r, h); s.Head != h || s.Tag != known(t, "73c40b8e8235b9ce4372cdf0169055c514e3053ea24db3feadd0b671d7c16385") {
		t.Errorf("%+v", s)
	}
}
