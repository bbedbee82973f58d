package codec_test

import (
	"bytes"
	"encoding/binary"
	"math"
	"math/rand"
	"slices"
	"testing"

	"deponent/api"
	"deponent/codec"
)

// sizes are what a number may be asked to have of bytes, with what it has then.
var sizes = []struct{ asked, has int }{
	{math.MinInt, 1}, {-256, 1}, {-8, 1}, {-1, 1}, {0, 1},
	{1, 1}, {2, 2}, {3, 3}, {4, 4}, {5, 5}, {6, 6}, {7, 7}, {8, 8},
	{9, 8}, {10, 8}, {16, 8}, {64, 8}, {256, 8}, {257, 8}, {math.MaxInt32, 8}, {math.MaxInt, 8},
}

var numbers = []uint64{0, 1, 0x7f, 0x80, 0xff, 0x100, 258, 0xffff, 1 << 16, 0x01020304, 1<<32 - 1, 1 << 32, 0x0102030405060708, 0xfedcba9876543210, 1 << 63, math.MaxUint64}

// lengths are those of texts, about the ends of a count's bytes.
var lengths = []int{0, 1, 2, 3, 31, 255, 256, 257, 511, 512, 513, 1000, 32767, 32768, 65534, 65535}

func someBytes(r *rand.Rand, n int) []byte {
	b := make([]byte, n)
	r.Read(b)
	return b
}

func someDigest(r *rand.Rand) api.Digest { return api.Digest(someBytes(r, 32)) }

// roomy answers a list with b in it and room behind it, and the whole of its memory.
func roomy(b []byte) (list, whole []byte) {
	whole = append(slices.Clone(b), bytes.Repeat([]byte{0xa5}, 150)...)
	return whole[:len(b)], whole
}

// spoil changes a list and all the room behind it.
func spoil(b []byte) {
	b = b[:cap(b)]
	for i := range b {
		b[i] ^= 0xff
	}
}

// numberBytes, textBytes are what P2.1 says of a number, and of a text of fewer than 2^16 bytes.
func numberBytes(n uint64, size int) []byte {
	return binary.BigEndian.AppendUint64(nil, n)[8-size:]
}

func textBytes(b []byte) []byte {
	return slices.Concat(numberBytes(uint64(len(b)), 2), b)
}

func TestWriterRuns(t *testing.T) {
	w := codec.NewWriter()
	w.Number(258, 2)
	w.Bytes([]byte("a"))
	if got := w.Done(); !bytes.Equal(got, []byte{1, 2, 0, 1, 'a'}) {
		t.Errorf("%x", got)
	}
	nine, eight := codec.NewWriter(), codec.NewWriter()
	nine.Number(0x0102030405060708, 9)
	eight.Number(0x0102030405060708, 8)
	if !bytes.Equal(nine.Done(), eight.Done()) || len(eight.Done()) != 8 {
		t.Errorf("%x by nine bytes, %x by eight", nine.Done(), eight.Done())
	}
}

func TestWriterOfNothing(t *testing.T) {
	if got := codec.NewWriter().Done(); len(got) != 0 {
		t.Errorf("%x", got)
	}
}

func TestWrittenNumbers(t *testing.T) {
	for _, n := range numbers {
		for _, s := range sizes {
			w := codec.NewWriter()
			w.Number(n, s.asked)
			if got, want := w.Done(), numberBytes(n, s.has); !bytes.Equal(got, want) {
				t.Errorf("%x by %d bytes: %x, not %x", n, s.asked, got, want)
			}
		}
	}
}

func TestWrittenTexts(t *testing.T) {
	r := rand.New(rand.NewSource(21))
	for _, n := range lengths {
		b := someBytes(r, n)
		w := codec.NewWriter()
		w.Bytes(b)
		if got := w.Done(); !bytes.Equal(got, textBytes(b)) {
			t.Errorf("a text of %d bytes: %d bytes", n, len(got))
		}
	}
}

// TestTextsTooLong: the count is modulo 2^16, and only so many first bytes follow.
func TestTextsTooLong(t *testing.T) {
	r := rand.New(rand.NewSource(22))
	for _, c := range []struct{ length, count int }{
		{1 << 16, 0}, {1<<16 + 1, 1}, {1<<16 + 3, 3}, {1<<16 + 512, 512}, {1<<17 - 1, 65535}, {1 << 17, 0}, {1<<17 + 300, 300}, {3<<16 + 40000, 40000},
	} {
		b := someBytes(r, c.length)
		w := codec.NewWriter()
		w.Bytes(b)
		w.Number(0xee, 1)
		want := append(textBytes(b[:c.count]), 0xee)
		if got := w.Done(); !bytes.Equal(got, want) {
			t.Errorf("a text of %d bytes: %d bytes, not %d", c.length, len(got), len(want))
		}
	}
}

func TestWrittenDigests(t *testing.T) {
	r := rand.New(rand.NewSource(23))
	for _, d := range []api.Digest{{}, {5}, {31: 7}, someDigest(r), someDigest(r)} {
		w := codec.NewWriter()
		w.Digest(d)
		if got := w.Done(); !bytes.Equal(got, d[:]) {
			t.Errorf("%x, not %x", got, d)
		}
	}
}

// TestDoneIsAllSoFar: Done ends nothing, and takes nothing away.
func TestDoneIsAllSoFar(t *testing.T) {
	r := rand.New(rand.NewSource(24))
	w := codec.NewWriter()
	var want []byte
	for i := range 300 {
		switch i % 3 {
		case 0:
			n, size := r.Uint64(), 1+r.Intn(8)
			w.Number(n, size)
			want = append(want, numberBytes(n, size)...)
		case 1:
			b := someBytes(r, r.Intn(70))
			w.Bytes(b)
			want = append(want, textBytes(b)...)
		case 2:
			d := someDigest(r)
			w.Digest(d)
			want = append(want, d[:]...)
		}
		for range 2 {
			if got := w.Done(); !bytes.Equal(got, want) {
				t.Fatalf("behind %d writes: %x, not %x", i+1, got, want)
			}
		}
	}
}

// TestWriterKeepsNoText: R2, what is handed in is neither changed nor kept, nor is its room.
func TestWriterKeepsNoText(t *testing.T) {
	r := rand.New(rand.NewSource(25))
	for _, n := range append(slices.Clone(lengths), 1<<16, 1<<16+9) {
		b, whole := roomy(someBytes(r, n))
		before := slices.Clone(whole)
		w := codec.NewWriter()
		w.Bytes(b)
		want := w.Done()
		w.Number(1, 8)
		w.Bytes(b)
		w.Digest(api.Digest{1})
		if !bytes.Equal(whole, before) {
			t.Errorf("a text of %d bytes, or its room, was changed", n)
		}
		spoil(b)
		if got := w.Done()[:len(want)]; !bytes.Equal(got, want) {
			t.Errorf("a text of %d bytes was kept", n)
		}
	}
}

// TestDoneIsNewMemory: R2, an answer changed, its room included, changes neither the Writer nor another answer.
func TestDoneIsNewMemory(t *testing.T) {
	w := codec.NewWriter()
	var want []byte
	var answers, copies [][]byte
	for i := range 200 {
		spoil(w.Done())
		kept := w.Done()
		answers, copies = append(answers, kept), append(copies, slices.Clone(kept[:cap(kept)]))
		spoil(w.Done())
		w.Number(uint64(i), 1)
		want = append(want, byte(i))
		if got := w.Done(); !bytes.Equal(got, want) {
			t.Fatalf("behind %d writes: %x, not %x", i+1, got, want)
		}
	}
	for i, kept := range answers {
		if !bytes.Equal(kept[:cap(kept)], copies[i]) {
			t.Errorf("answer %d was changed later", i)
		}
	}
}

// TestNoTextIsNil: R4.
func TestNoTextIsNil(t *testing.T) {
	some := []byte("some")
	for _, b := range [][]byte{nil, {}, some[:0]} {
		w := codec.NewWriter()
		w.Bytes(b)
		if got := w.Done(); !bytes.Equal(got, []byte{0, 0}) {
			t.Errorf("%x", got)
		}
	}
}

func TestWritersAreApart(t *testing.T) {
	v, w := codec.NewWriter(), codec.NewWriter()
	for i := range 100 {
		v.Number(uint64(i), 1)
		w.Number(uint64(i)+100, 1)
	}
	a, b := v.Done(), w.Done()
	for i := range 100 {
		if a[i] != byte(i) || b[i] != byte(i+100) {
			t.Fatalf("byte %d: %d and %d", i, a[i], b[i])
		}
	}
}
