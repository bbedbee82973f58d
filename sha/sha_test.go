package sha_test

import (
	"bytes"
	"crypto/hmac"
	"crypto/sha256"
	"encoding/hex"
	"math"
	"math/rand"
	"slices"
	"strings"
	"testing"

	"deponent/api"
	"deponent/sha"
)

const fox = "The quick brown fox jumps over the lazy dog"

// edges are lengths about the ends of blocks, of the padding and of keys.
var edges = []int{0, 1, 2, 31, 32, 33, 54, 55, 56, 57, 62, 63, 64, 65, 66, 118, 119, 120, 121, 127, 128, 129, 183, 184, 191, 192, 193, 1000, 4095, 4096, 4097}

func digest(t *testing.T, text string) api.Digest {
	t.Helper()
	b, err := hex.DecodeString(strings.ReplaceAll(text, " ", ""))
	if err != nil || len(b) != 32 {
		t.Fatalf("no digest: %q", text)
	}
	return api.Digest(b)
}

func someBytes(r *rand.Rand, n int) []byte {
	b := make([]byte, n)
	r.Read(b)
	return b
}

func wantedMac(key, b []byte) api.Digest {
	h := hmac.New(sha256.New, key)
	h.Write(b)
	return api.Digest(h.Sum(nil))
}

// roomy answers a list with b in it and room behind it, and the whole of its memory.
func roomy(b []byte) (list, whole []byte) {
	whole = append(slices.Clone(b), bytes.Repeat([]byte{0xa5}, 150)...)
	return whole[:len(b)], whole
}

func TestSumRuns(t *testing.T) {
	for _, c := range []struct{ text, want string }{
		{"", "e3b0c442 98fc1c14 9afbf4c8 996fb924 27ae41e4 649b934c a495991b 7852b855"},
		{"abc", "ba7816bf 8f01cfea 414140de 5dae2223 b00361a3 96177a9c b410ff61 f20015ad"},
		{"abcdbcdecdefdefgefghfghighijhijkijkljklmklmnlmnomnopnopq", "248d6a61 d20638b8 e5c02693 0c3e6039 a33ce459 64ff2167 f6ecedd4 19db06c1"},
		{strings.Repeat("a", 1000000), "cdc76e5c 9914fb92 81a1c7e2 84d73e67 f1809a48 a497200e 046d39cc c7112cd0"},
	} {
		if got := sha.Sum([]byte(c.text)); got != digest(t, c.want) {
			t.Errorf("Sum of %d bytes: %x, not %s", len(c.text), got, c.want)
		}
	}
}

func TestSumOfEveryLength(t *testing.T) {
	r := rand.New(rand.NewSource(11))
	lengths := slices.Clone(edges)
	for n := range 400 {
		lengths = append(lengths, n)
	}
	for _, n := range lengths {
		for _, b := range [][]byte{make([]byte, n), bytes.Repeat([]byte{0xff}, n), bytes.Repeat([]byte{0x80}, n), someBytes(r, n)} {
			if got, want := sha.Sum(b), api.Digest(sha256.Sum256(b)); got != want {
				t.Errorf("Sum of %d bytes: %x, not %x", n, got, want)
			}
		}
	}
}

func TestSumSeesEachByte(t *testing.T) {
	b := make([]byte, 130)
	seen := map[api.Digest]int{sha.Sum(b): -1}
	for i := range b {
		b[i] = 1
		d := sha.Sum(b)
		if j, ok := seen[d]; ok {
			t.Errorf("bytes %d and %d make no difference", i, j)
		}
		seen[d] = i
		b[i] = 0
	}
}

func TestMacRuns(t *testing.T) {
	for _, c := range []struct {
		key, text []byte
		want      string
	}{
		{[]byte("key"), []byte(fox), "f7bc83f4 30538424 b13298e6 aa6fb143 ef4d59a1 49461759 97479dbc 2d1a3cd8"},
		{nil, nil, "b613679a 0814d9ec 772f95d7 78c35fc5 ff1697c4 93715653 c6c71214 4292c5ad"},
		{bytes.Repeat([]byte{0x0b}, 20), []byte("Hi There"), "b0344c61 d8db3853 5ca8afce af0bf12b 881dc200 c9833da7 26e9376c 2e32cff7"},
		{bytes.Repeat([]byte{0xaa}, 131), []byte("Test Using Larger Than Block-Size Key - Hash Key First"), "60e43159 1ee0b67f 0d8a26aa cbf5b77f 8e0bc621 3728c514 0546040f 0ee37f54"},
	} {
		if got := sha.Mac(c.key, c.text); got != digest(t, c.want) {
			t.Errorf("Mac under %x of %q: %x, not %s", c.key, c.text, got, c.want)
		}
	}
}

func TestMacOfEveryLength(t *testing.T) {
	r := rand.New(rand.NewSource(12))
	keys := append([]int{61, 100, 126, 200, 256}, edges...)
	for _, k := range keys {
		for _, n := range edges {
			key, b := someBytes(r, k), someBytes(r, n)
			if got, want := sha.Mac(key, b), wantedMac(key, b); got != want {
				t.Errorf("Mac of %d bytes under a key of %d: %x, not %x", n, k, got, want)
			}
		}
	}
}

func TestMacKeyAboutABlock(t *testing.T) {
	b := []byte(fox)
	full := bytes.Repeat([]byte{7}, 64)
	long := bytes.Repeat([]byte{7}, 65)
	sum, fullSum := sha.Sum(long), sha.Sum(full)
	if sha.Mac(long, b) != sha.Mac(sum[:], b) {
		t.Error("a key of 65 bytes is not its Sum")
	}
	if sha.Mac(full, b) == sha.Mac(fullSum[:], b) {
		t.Error("a key of 64 bytes is its Sum")
	}
	if sha.Mac([]byte("k"), b) != sha.Mac(append([]byte("k"), make([]byte, 63)...), b) {
		t.Error("a short key is not brought to 64 bytes by noughts")
	}
	if sha.Mac(full[:63], b) == sha.Mac(full, b) {
		t.Error("the last byte of a key of 64 bytes makes no difference")
	}
}

func TestCut(t *testing.T) {
	d := sha.Sum([]byte("abc"))
	for i := range d {
		d[i] |= 1 // so that no byte of it is 0 by itself
	}
	widths := []int{math.MinInt, math.MinInt32, -256, math.MaxInt32, math.MaxInt}
	for w := -40; w <= 300; w++ {
		widths = append(widths, w)
	}
	for _, w := range widths {
		var want api.Digest
		copy(want[:], d[:min(max(w, 0), 32)])
		before := d
		if got := sha.Cut(d, w); got != want {
			t.Errorf("Cut by %d: %x, not %x", w, got, want)
		}
		if d != before {
			t.Errorf("Cut by %d changed what it was given", w)
		}
	}
}

func TestCutRuns(t *testing.T) {
	all := digest(t, strings.Repeat("ff", 32))
	if got := sha.Cut(all, 2); got != (api.Digest{0xff, 0xff}) {
		t.Errorf("by 2: %x", got)
	}
	if got := sha.Cut(all, 0); got != (api.Digest{}) {
		t.Errorf("by 0: %x", got)
	}
	if got := sha.Cut(all, -1); got != (api.Digest{}) {
		t.Errorf("by -1: %x", got)
	}
	if got := sha.Cut(all, 40); got != all {
		t.Errorf("by 40: %x", got)
	}
}

func TestJoin(t *testing.T) {
	for _, c := range []struct {
		lists [][]byte
		want  string
	}{
		{nil, ""},
		{[][]byte{}, ""},
		{[][]byte{nil}, ""},
		{[][]byte{{}, nil, {}}, ""},
		{[][]byte{[]byte("abc")}, "abc"},
		{[][]byte{nil, []byte("a"), {}, []byte("bc"), nil}, "abc"},
		{[][]byte{[]byte("bc"), []byte("a")}, "bca"},
		{[][]byte{{0}, {0, 0xff}}, "\x00\x00\xff"},
	} {
		if got := sha.Join(c.lists...); string(got) != c.want {
			t.Errorf("Join of %q: %q, not %q", c.lists, got, c.want)
		}
	}
	if got := sha.Join(); len(got) != 0 {
		t.Errorf("Join of nothing: %q", got)
	}
}

func TestJoinOfOneListTwice(t *testing.T) {
	a, whole := roomy([]byte("ab"))
	before := slices.Clone(whole)
	if got := sha.Join(a, a, a[1:], a[:1]); string(got) != "ababba" {
		t.Errorf("%q", got)
	}
	if !bytes.Equal(whole, before) {
		t.Error("Join wrote into a list's room")
	}
}

func TestJoinOfMany(t *testing.T) {
	r := rand.New(rand.NewSource(13))
	for range 200 {
		lists := make([][]byte, r.Intn(20))
		for i := range lists {
			lists[i] = someBytes(r, r.Intn(40))
		}
		if got := sha.Join(lists...); !bytes.Equal(got, bytes.Join(lists, nil)) {
			t.Fatalf("Join of %x: %x", lists, got)
		}
	}
}

// TestNothingChanged: R2, what is handed in is left as it is, and R5, room behind a list's length is not read.
func TestNothingChanged(t *testing.T) {
	r := rand.New(rand.NewSource(14))
	for _, n := range edges {
		b, whole := roomy(someBytes(r, n))
		key, wholeKey := roomy(someBytes(r, n%130))
		before, beforeKey := slices.Clone(whole), slices.Clone(wholeKey)
		sum, mac := sha.Sum(b), sha.Mac(key, b)
		joined := sha.Join(key, b)
		if !bytes.Equal(whole, before) || !bytes.Equal(wholeKey, beforeKey) {
			t.Errorf("%d bytes: an argument or its room was changed", n)
		}
		if sum != sha.Sum(slices.Clip(slices.Clone(b))) || mac != sha.Mac(slices.Clip(slices.Clone(key)), slices.Clip(slices.Clone(b))) {
			t.Errorf("%d bytes: the room behind a list was read", n)
		}
		if !bytes.Equal(joined, slices.Concat(key, b)) {
			t.Errorf("%d bytes: Join read the room behind a list", n)
		}
	}
}

// TestJoinIsNewMemory: R2, neither the answer nor its spare room is an argument's, or another answer's.
func TestJoinIsNewMemory(t *testing.T) {
	word, whole := roomy([]byte("abc"))
	before := slices.Clone(whole)
	for _, lists := range [][][]byte{{word}, {word, nil}, {nil, word}, {word[:0]}, {word[:0], word[:0]}, {word, word}} {
		spoiled, kept := sha.Join(lists...), sha.Join(lists...)
		want := slices.Clone(kept[:cap(kept)])
		spoil(spoiled)
		if !bytes.Equal(whole, before) {
			t.Fatalf("Join of %q shares memory with its argument", lists)
		}
		if !bytes.Equal(kept[:cap(kept)], want) {
			t.Fatalf("two answers of Join of %q share memory", lists)
		}
	}
	joined := sha.Join(word)
	word[0] = 'x'
	if string(joined) != "abc" {
		t.Errorf("Join kept its argument: %q", joined)
	}
}

func spoil(b []byte) {
	b = b[:cap(b)]
	for i := range b {
		b[i] ^= 0xff
	}
}

// TestJoinLeavesItsLists: the list of lists is an argument too, if it is handed in by dots.
func TestJoinLeavesItsLists(t *testing.T) {
	lists := [][]byte{[]byte("a"), nil, []byte("b"), []byte("behind")}
	if got := sha.Join(lists[:3]...); string(got) != "ab" {
		t.Errorf("%q", got)
	}
	if string(lists[0]) != "a" || lists[1] != nil || string(lists[2]) != "b" || string(lists[3]) != "behind" {
		t.Errorf("the lists are changed: %q", lists)
	}
}

// TestNilIsEmpty: R4.
func TestNilIsEmpty(t *testing.T) {
	none, some := []byte{}, []byte("some")
	if sha.Sum(nil) != sha.Sum(none) || sha.Sum(nil) != sha.Sum(some[:0]) {
		t.Error("Sum")
	}
	if sha.Mac(nil, some) != sha.Mac(none, some) || sha.Mac(some, nil) != sha.Mac(some, none) || sha.Mac(nil, nil) != sha.Mac(none, none) {
		t.Error("Mac")
	}
	if sha.Mac(nil, some) != sha.Mac(make([]byte, 64), some) {
		t.Error("Mac of no key")
	}
	if !bytes.Equal(sha.Join(nil, some), sha.Join(none, some)) {
		t.Error("Join")
	}
}

// TestNothingIsKept: a call's answer doesn't hang on the calls ahead of it.
func TestNothingIsKept(t *testing.T) {
	b, key := []byte(fox), bytes.Repeat([]byte("k"), 70)
	sum, mac := sha.Sum(b), sha.Mac(key, b)
	for _, n := range edges {
		sha.Sum(make([]byte, n))
		sha.Mac(make([]byte, n), b)
		if sha.Sum(b) != sum || sha.Mac(key, b) != mac {
			t.Fatalf("another answer behind a call with %d bytes", n)
		}
	}
}
