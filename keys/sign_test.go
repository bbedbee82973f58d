package keys_test

import (
	"bytes"
	"math/bits"
	"math/rand"
	"testing"

	"deponent/api"
	"deponent/keys"
	"deponent/sha"
)

// TestKey: P11.1, of numbers at all their ends, of which the lowest bytes count, and of all lengths of seeds.
func TestKey(t *testing.T) {
	for _, seed := range seeds() {
		for _, n := range numbers {
			for _, draw := range draws {
				for _, c := range [][2]int{{n, 7}, {7, n}, {n, n}} {
					if got, want := keys.Key(seed, c[0], c[1], draw), wantedKey(seed, c[0], c[1], draw); got != want {
						t.Fatalf("Key(%x, %d, %d, %d): %x, not %x", seed, c[0], c[1], draw, got, want)
					}
				}
			}
		}
	}
}

// TestKeyIsAMac: P11.1, the bytes, written out.
func TestKeyIsAMac(t *testing.T) {
	seed := []byte("some seed")
	if got := keys.Key(seed, 0x0b, 0x01020304, 0xf5f6f7f8); got != sha.Mac(seed, []byte("key\x0b\x01\x02\x03\x04\xf5\xf6\xf7\xf8")) {
		t.Errorf("%x", got)
	}
	if got := keys.Key(seed, -1, -2, 0); got != sha.Mac(seed, []byte("key\xff\xff\xff\xff\xfe\x00\x00\x00\x00")) {
		t.Errorf("%x", got)
	}
}

// TestKeysAreUnlike: of all trees and epochs that there may be, at one draw, and of other draws and seeds.
func TestKeysAreUnlike(t *testing.T) {
	seen := map[api.Digest]bool{}
	n := 0
	for _, seed := range []string{"", "a", "b", "ab"} {
		for _, draw := range draws {
			for tree := range api.MaxTrees {
				for epoch := range api.MaxEpochs {
					seen[keys.Key([]byte(seed), tree, epoch, draw)] = true
					n++
				}
			}
		}
	}
	if len(seen) != n {
		t.Errorf("%d keys, of which %d are unlike", n, len(seen))
	}
}

// TestSeedAboutABlock: a seed of 64 bytes is the key of the Mac itself, one of 65 is its Sum.
func TestSeedAboutABlock(t *testing.T) {
	full, long := bytes.Repeat([]byte{7}, 64), bytes.Repeat([]byte{7}, 65)
	sum := sha.Sum(long)
	if keys.Key(long, 1, 2, 3) != keys.Key(sum[:], 1, 2, 3) {
		t.Error("a seed of 65 bytes is not its Sum")
	}
	sum = sha.Sum(full)
	if keys.Key(full, 1, 2, 3) == keys.Key(sum[:], 1, 2, 3) || keys.Key(full, 1, 2, 3) == keys.Key(full[:63], 1, 2, 3) {
		t.Error("not all of a seed of 64 bytes counts")
	}
}

// TestBytes: P11.1, of heads with each field at its ends.
func TestBytes(t *testing.T) {
	for _, h := range heads() {
		if got, want := keys.Bytes(h), wantedBytes(h); !bytes.Equal(got, want) {
			t.Errorf("Bytes(%+v): %x, not %x", h, got, want)
		}
	}
}

// TestBytesWrittenOut: P11.1, each field at its place.
func TestBytesWrittenOut(t *testing.T) {
	h := api.Head{Tree: 0x0a, Epoch: 0x0b0c0d0e, Size: 0x1112131415161718, Clock: 0x2122232425262728}
	for i := range h.Root {
		h.Root[i] = byte(0x30 + i)
	}
	want := "head\x0a\x0b\x0c\x0d\x0e\x11\x12\x13\x14\x15\x16\x17\x18\x21\x22\x23\x24\x25\x26\x27\x28" +
		"\x30\x31\x32\x33\x34\x35\x36\x37\x38\x39\x3a\x3b\x3c\x3d\x3e\x3f\x40\x41\x42\x43\x44\x45\x46\x47\x48\x49\x4a\x4b\x4c\x4d\x4e\x4f"
	if got := keys.Bytes(h); string(got) != want {
		t.Errorf("%x", got)
	}
	h = api.Head{Tree: -1, Epoch: -2}
	if got := keys.Bytes(h); string(got[:9]) != "head\xff\xff\xff\xff\xfe" || !bytes.Equal(got[9:], make([]byte, 48)) {
		t.Errorf("%x", got)
	}
}

// TestSign: P11.1, the head stays as it is, whatever it has, and its tag is a Mac by all of the key's 32 bytes.
func TestSign(t *testing.T) {
	for _, key := range roots() {
		for _, h := range heads() {
			got := keys.Sign(key, h)
			if want := wantedSigned(key, h); got != want || got.Tag != sha.Mac(key[:], keys.Bytes(h)) {
				t.Fatalf("Sign(%x, %+v): %+v, not %+v", key, h, got, want)
			}
			if !keys.Holds(key, got) {
				t.Fatalf("Sign(%x, %+v) does not hold", key, h)
			}
		}
	}
}

// TestSignByAnotherKey: a key with one bit turned signs otherwise.
func TestSignByAnotherKey(t *testing.T) {
	r := rand.New(rand.NewSource(111))
	key, h := someDigest(r), someHead(r, 3)
	s := keys.Sign(key, h)
	for i := range 256 {
		other := key
		other[i/8] ^= 1 << (i % 8)
		if keys.Holds(other, s) || keys.Holds(key, keys.Sign(other, h)) {
			t.Fatalf("bit %d of the key makes no difference", i)
		}
	}
}

// turned answers s with one bit turned in its Tag and in each field, by what was turned.
func turned(s api.Signed) map[string][]api.Signed {
	all := map[string][]api.Signed{}
	for i := range 8 * len(s.Tag) {
		x, y := s, s
		x.Tag[i/8] ^= 1 << (i % 8)
		y.Head.Root[i/8] ^= 1 << (i % 8)
		all["Tag"], all["Root"] = append(all["Tag"], x), append(all["Root"], y)
	}
	for i := range 64 {
		x, y := s, s
		x.Head.Size ^= 1 << i
		y.Head.Clock ^= 1 << i
		all["Size"], all["Clock"] = append(all["Size"], x), append(all["Clock"], y)
	}
	for i := range bits.UintSize {
		x, y := s, s
		x.Head.Tree ^= 1 << i
		y.Head.Epoch ^= 1 << i
		all["Tree"], all["Epoch"] = append(all["Tree"], x), append(all["Epoch"], y)
	}
	return all
}

// TestTurnedBits: P11.3, with one bit turned in its Tag or in a field that is signed it does not hold. Bits above the lowest byte of Tree and above the lowest four of Epoch are not among the bytes that are signed: what has them is just what Sign answers of such a head, and holds.
func TestTurnedBits(t *testing.T) {
	r := rand.New(rand.NewSource(112))
	signedBits := map[string]int{"Tag": 256, "Root": 256, "Size": 64, "Clock": 64, "Tree": 8, "Epoch": 32}
	for _, h := range append(heads(), someHead(r, 0), someHead(r, 15)) {
		key := someDigest(r)
		s := keys.Sign(key, h)
		for field, l := range turned(s) {
			for i, x := range l {
				want := i >= signedBits[field]
				if keys.Holds(key, x) != want || want != (x == keys.Sign(key, x.Head)) {
					t.Fatalf("%+v, bit %d of %s turned: %v", s, i, field, !want)
				}
			}
		}
	}
}

// TestHoldsOfNothing: what no one has signed.
func TestHoldsOfNothing(t *testing.T) {
	for _, d := range roots() {
		for _, h := range heads() {
			for _, tag := range roots() {
				if keys.Holds(d, api.Signed{Head: h, Tag: tag}) {
					t.Fatalf("%x holds of %+v by %x", tag, h, d)
				}
			}
		}
	}
}

// TestFieldsStandApart: heads whose fields have one another's values are signed otherwise.
func TestFieldsStandApart(t *testing.T) {
	var key api.Digest
	tags := map[api.Digest]api.Head{}
	for _, h := range []api.Head{{}, {Tree: 1}, {Epoch: 1}, {Size: 1}, {Clock: 1}, {Root: api.Digest{1}}, {Root: api.Digest{31: 1}}, {Epoch: 1 << 24}, {Size: 1 << 56}, {Clock: 1 << 56}, {Size: 1 << 32}, {Clock: 1 << 32}} {
		s := keys.Sign(key, h)
		if other, ok := tags[s.Tag]; ok {
			t.Errorf("%+v is signed like %+v", h, other)
		}
		tags[s.Tag] = h
	}
}
