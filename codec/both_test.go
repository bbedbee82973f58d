package codec_test

import (
	"bytes"
	"fmt"
	"math"
	"math/rand"
	"slices"
	"testing"

	"deponent/api"
	"deponent/codec"
)

// plain is what chapter 2 says of a Reader, told in another way: what is left, what it was, and the refusal that stays.
type plain struct {
	left []byte
	all  int
	no   codec.Refusal
}

func (p *plain) refuse(at int, why api.Errno) {
	if p.no.Why == api.OK {
		p.no = codec.Refusal{At: at, Why: why}
		p.left = nil
	}
}

func (p *plain) place() int { return p.all - len(p.left) }

func (p *plain) number(size int) uint64 {
	if len(p.left) < size {
		p.refuse(p.all, api.ErrEnd)
		return 0
	}
	n := numberOf(p.left[:size])
	p.left = p.left[size:]
	return n
}

func (p *plain) text(most int) []byte {
	at := p.place()
	count := int(p.number(2))
	switch {
	case p.no.Why != api.OK:
		return nil
	case count > most:
		p.refuse(at, api.ErrLong)
		return nil
	case count > len(p.left):
		p.refuse(p.all, api.ErrEnd)
		return nil
	}
	b := p.left[:count]
	p.left = p.left[count:]
	return b
}

func (p *plain) digest() api.Digest {
	if len(p.left) < 32 {
		p.refuse(p.all, api.ErrEnd)
		return api.Digest{}
	}
	d := api.Digest(p.left[:32])
	p.left = p.left[32:]
	return d
}

// lowBytes answers bytes that are small numbers mostly, so that counts are often such as can be read.
func lowBytes(r *rand.Rand, n int) []byte {
	b := make([]byte, n)
	for i := range b {
		switch r.Intn(4) {
		case 0:
			b[i] = byte(r.Intn(8))
		case 1:
			b[i] = byte(r.Intn(256))
		}
	}
	return b
}

// TestReaderIsPlain: R1 and P2.2, any calls in any order, of any bytes.
func TestReaderIsPlain(t *testing.T) {
	random := rand.New(rand.NewSource(29))
	mosts := []int{math.MinInt, -1, 0, 1, 2, 3, 5, 8, 64, 255, 65535, math.MaxInt}
	for run := range 5000 {
		text := lowBytes(random, random.Intn(90))
		r, p := codec.NewReader(text), &plain{left: text, all: len(text)}
		for step := range 12 {
			what := fmt.Sprintf("run %d, step %d", run, step)
			switch random.Intn(8) {
			case 0, 1, 2:
				s := sizes[random.Intn(len(sizes))]
				if got, want := r.Number(s.asked), p.number(s.has); got != want {
					t.Fatalf("%s: %x, not %x", what, got, want)
				}
			case 3, 4, 5:
				most := mosts[random.Intn(len(mosts))]
				if got, want := r.Bytes(most), p.text(most); !bytes.Equal(got, want) {
					t.Fatalf("%s: %x, not %x", what, got, want)
				}
			case 6:
				if got, want := r.Digest(), p.digest(); got != want {
					t.Fatalf("%s: %x, not %x", what, got, want)
				}
			case 7:
				why := errnos[random.Intn(len(errnos))*random.Intn(2)]
				r.Fail(why)
				if why != api.OK {
					p.refuse(p.place(), why)
				}
			}
			wantSame(t, what, r, p)
		}
	}
}

func wantSame(t *testing.T, what string, r *codec.Reader, p *plain) {
	t.Helper()
	switch {
	case p.no.Why != api.OK:
		wantRefusal(t, what, r.End(), p.no.At, p.no.Why)
	case len(p.left) > 0:
		wantRefusal(t, what, r.End(), p.place(), api.ErrTail)
	default:
		wantEnd(t, what, r)
	}
}

// part is one of what is written: a number of size bytes, a text (size 0), a digest (size -1).
type part struct {
	size   int
	number uint64
	text   []byte
	digest api.Digest
}

func someParts(r *rand.Rand) []part {
	parts := make([]part, r.Intn(20))
	for i := range parts {
		size := r.Intn(10) - 1
		switch size {
		case -1:
			parts[i] = part{size: size, digest: someDigest(r)}
		case 0:
			parts[i] = part{size: size, text: someBytes(r, r.Intn(600))}
		default:
			parts[i] = part{size: size, number: r.Uint64() >> (64 - 8*size)}
		}
	}
	return parts
}

func written(parts []part) []byte {
	w := codec.NewWriter()
	for _, p := range parts {
		switch p.size {
		case -1:
			w.Digest(p.digest)
		case 0:
			w.Bytes(p.text)
		default:
			w.Number(p.number, p.size)
		}
	}
	return w.Done()
}

func readLike(r *codec.Reader, parts []part) []part {
	read := make([]part, len(parts))
	for i, p := range parts {
		read[i].size = p.size
		switch p.size {
		case -1:
			read[i].digest = r.Digest()
		case 0:
			read[i].text = r.Bytes(65535)
		default:
			read[i].number = r.Number(p.size)
		}
	}
	return read
}

func sameParts(a, b []part) bool {
	return slices.EqualFunc(a, b, func(x, y part) bool {
		return x.size == y.size && x.number == y.number && bytes.Equal(x.text, y.text) && x.digest == y.digest
	})
}

// TestWrittenIsRead: P2.4, and one byte too few or too many is told.
func TestWrittenIsRead(t *testing.T) {
	random := rand.New(rand.NewSource(30))
	for run := range 2000 {
		what := fmt.Sprintf("run %d", run)
		parts := someParts(random)
		text := written(parts)
		r := codec.NewReader(text)
		if got := readLike(r, parts); !sameParts(got, parts) {
			t.Fatalf("%s: %v, not %v", what, got, parts)
		}
		wantEnd(t, what, r)
		r = codec.NewReader(append(slices.Clone(text), 0))
		if got := readLike(r, parts); !sameParts(got, parts) {
			t.Fatalf("%s, a byte more: %v, not %v", what, got, parts)
		}
		wantRefusal(t, what+", a byte more", r.End(), len(text), api.ErrTail)
		if len(text) > 0 {
			r = codec.NewReader(text[:len(text)-1])
			readLike(r, parts)
			wantRefused(t, what+", a byte fewer", r, len(text)-1, api.ErrEnd)
		}
	}
}

// TestLongTextIsRead: P2.4 of texts as long as a count can say.
func TestLongTextIsRead(t *testing.T) {
	random := rand.New(rand.NewSource(31))
	for _, n := range lengths {
		parts := []part{{size: 0, text: someBytes(random, n)}, {size: 8, number: math.MaxUint64}, {size: 0, text: someBytes(random, 65535)}}
		r := codec.NewReader(written(parts))
		if !sameParts(readLike(r, parts), parts) {
			t.Errorf("a text of %d bytes is read as another", n)
		}
		wantEnd(t, "long texts", r)
	}
}

// TestReadIsWritten: P2.4, bytes that are read to their end, however, are what is written again.
func TestReadIsWritten(t *testing.T) {
	random := rand.New(rand.NewSource(32))
	whole := 0
	for run := range 20000 {
		text := lowBytes(random, random.Intn(60))
		parts := someParts(random)
		r := codec.NewReader(text)
		for i := 0; i < len(parts); i++ {
			if r.End() == nil {
				parts = parts[:i]
			} else {
				copy(parts[i:], readLike(r, parts[i:i+1]))
			}
		}
		if r.End() != nil {
			continue
		}
		whole++
		if got := written(parts); !bytes.Equal(got, text) {
			t.Fatalf("run %d: %x, not %x", run, got, text)
		}
	}
	if whole < 100 {
		t.Errorf("only %d texts were read to their ends", whole)
	}
}
