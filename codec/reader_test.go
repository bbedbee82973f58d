package codec_test

import (
	"bytes"
	"encoding/binary"
	"errors"
	"fmt"
	"math"
	"math/rand"
	"slices"
	"testing"

	"deponent/api"
	"deponent/codec"
)

// errnos are all of api's numbers.
var errnos = []api.Errno{api.OK, api.ErrArg, api.ErrLong, api.ErrMany, api.ErrEnd, api.ErrTail, api.ErrForm, api.ErrDisk, api.ErrToken, api.ErrDenied, api.ErrQuota, api.ErrNone, api.ErrState, api.ErrRange, api.ErrFull, api.ErrTaken}

// wantRefusal holds an error against a refusal: what it is, what errors.Is and errors.As find in it.
func wantRefusal(t *testing.T, what string, err error, at int, why api.Errno) {
	t.Helper()
	r, ok := err.(*codec.Refusal)
	if !ok || r == nil || *r != (codec.Refusal{At: at, Why: why}) {
		t.Errorf("%s: %v, not {%d, %d}", what, err, at, why)
		return
	}
	if r.Error() == "" || r.Unwrap() != error(why) {
		t.Errorf("%s: %q, which wraps %v", what, r.Error(), r.Unwrap())
	}
	for _, e := range []error{err, fmt.Errorf("read: %w", err), errors.Join(errors.New("another"), fmt.Errorf("read: %w", err))} {
		var found *codec.Refusal
		var number api.Errno
		if !errors.As(e, &found) || *found != *r || !errors.As(e, &number) || number != why {
			t.Errorf("%s: errors.As finds %v, %v in %v", what, found, number, e)
		}
		if !errors.Is(e, why) {
			t.Errorf("%s: errors.Is does not find %d", what, why)
		}
		for _, other := range errnos {
			if other != why && errors.Is(e, other) {
				t.Errorf("%s: errors.Is finds %d too", what, other)
			}
		}
	}
}

// wantNothing reads and fails by every way there is, behind a refusal.
func wantNothing(t *testing.T, what string, r *codec.Reader) {
	t.Helper()
	for _, size := range sizes {
		if n := r.Number(size.asked); n != 0 {
			t.Errorf("%s: a number behind it: %d", what, n)
		}
	}
	for _, most := range []int{math.MinInt, -1, 0, 1, 65535, math.MaxInt} {
		if b := r.Bytes(most); len(b) != 0 {
			t.Errorf("%s: a text behind it: %x", what, b)
		}
	}
	if d := r.Digest(); d != (api.Digest{}) {
		t.Errorf("%s: a digest behind it: %x", what, d)
	}
	for _, why := range errnos {
		r.Fail(why)
	}
}

// wantRefused asks that the refusal is this one, and that it stays.
func wantRefused(t *testing.T, what string, r *codec.Reader, at int, why api.Errno) {
	t.Helper()
	wantRefusal(t, what, r.End(), at, why)
	wantNothing(t, what, r)
	wantRefusal(t, what+", later", r.End(), at, why)
}

func wantEnd(t *testing.T, what string, r *codec.Reader) {
	t.Helper()
	if err := r.End(); err != nil {
		t.Errorf("%s: %v", what, err)
	}
}

func TestReaderRuns(t *testing.T) {
	r := codec.NewReader([]byte{1, 2, 0, 1, 'a'})
	if n, b := r.Number(2), r.Bytes(0); n != 258 || len(b) != 0 {
		t.Errorf("%d, %x", n, b)
	}
	wantRefused(t, "a text above most", r, 2, api.ErrLong)
	r = codec.NewReader([]byte{1})
	if n := r.Number(2); n != 0 {
		t.Errorf("two bytes of one: %d", n)
	}
	wantRefused(t, "two bytes of one", r, 1, api.ErrEnd)
	r = codec.NewReader([]byte{1, 2})
	if n := r.Number(1); n != 1 {
		t.Errorf("one byte of two: %d", n)
	}
	wantRefusal(t, "one byte of two", r.End(), 1, api.ErrTail)
	r = codec.NewReader([]byte{1, 2, 0, 1, 'a'})
	if n, b := r.Number(2), r.Bytes(1); n != 258 || string(b) != "a" {
		t.Errorf("%d, %x", n, b)
	}
	wantEnd(t, "all read", r)
}

func TestReaderExamples(t *testing.T) {
	whole := []byte{1, 2, 3, 4, 5, 6, 7, 8, 9}
	if n := codec.NewReader(whole).Number(9); n != 0x0102030405060708 {
		t.Errorf("by nine bytes: %x", n)
	}
	wantEnd(t, "nothing read of nothing", codec.NewReader(nil))
	r := codec.NewReader(whole)
	r.Number(1)
	r.Fail(api.ErrForm)
	r.Fail(api.ErrMany)
	wantRefused(t, "Fail twice", r, 1, api.ErrForm)
}

func TestReadNumbers(t *testing.T) {
	for _, n := range numbers {
		for _, s := range sizes {
			what := fmt.Sprintf("%x by %d bytes", n, s.asked)
			text := numberBytes(n, s.has)
			r := codec.NewReader(append(slices.Clone(text), 0xc3))
			want := numberOf(text)
			if got := r.Number(s.asked); got != want {
				t.Errorf("%s: %x, not %x", what, got, want)
			}
			wantRefusal(t, what, r.End(), s.has, api.ErrTail)
			if got := r.Number(1); got != 0xc3 {
				t.Errorf("%s: then %x", what, got)
			}
			wantEnd(t, what, r)
		}
	}
}

// numberOf is the number of up to eight bytes.
func numberOf(text []byte) uint64 {
	return binary.BigEndian.Uint64(append(make([]byte, 8-len(text)), text...))
}

func TestNumbersThatEnd(t *testing.T) {
	for _, s := range sizes {
		for left := range s.has {
			for _, ahead := range []int{0, 1, 5} {
				what := fmt.Sprintf("%d bytes of %d behind %d", s.asked, left, ahead)
				r := codec.NewReader(bytes.Repeat([]byte{0xff}, ahead+left))
				for range ahead {
					r.Number(1)
				}
				if n := r.Number(s.asked); n != 0 {
					t.Errorf("%s: %x", what, n)
				}
				wantRefused(t, what, r, ahead+left, api.ErrEnd)
			}
		}
	}
}

func TestReadTexts(t *testing.T) {
	random := rand.New(rand.NewSource(26))
	for _, n := range lengths {
		b := someBytes(random, n)
		for _, most := range []int{n, n + 1, 65535, 65536, math.MaxInt} {
			what := fmt.Sprintf("%d bytes, at most %d", n, most)
			if most < n {
				continue
			}
			r := codec.NewReader(slices.Concat([]byte{9}, textBytes(b), []byte{7}))
			if r.Number(1) != 9 || !bytes.Equal(r.Bytes(most), b) {
				t.Errorf("%s: another text", what)
			}
			wantRefusal(t, what, r.End(), n+3, api.ErrTail)
			if got := r.Number(1); got != 7 {
				t.Errorf("%s: then %x", what, got)
			}
			wantEnd(t, what, r)
		}
	}
}

// TestTextsAboveMost: the place is that of the count, whether or not the bytes are there.
func TestTextsAboveMost(t *testing.T) {
	for _, n := range lengths {
		for _, most := range []int{n - 1, n - 2, 0, -1, -65536, math.MinInt} {
			if most >= n {
				continue
			}
			for _, there := range []int{n, n + 1, n / 2, 0} {
				for _, ahead := range []int{0, 3} {
					what := fmt.Sprintf("%d bytes, %d there, at most %d, behind %d", n, there, most, ahead)
					count := numberBytes(uint64(n), 2)
					r := codec.NewReader(slices.Concat(make([]byte, ahead), count, bytes.Repeat([]byte{'a'}, there)))
					for range ahead {
						r.Number(1)
					}
					if b := r.Bytes(most); len(b) != 0 {
						t.Errorf("%s: %d bytes", what, len(b))
					}
					wantRefused(t, what, r, ahead, api.ErrLong)
				}
			}
		}
	}
}

func TestTextsThatEnd(t *testing.T) {
	for _, n := range lengths {
		for _, there := range []int{n - 1, n / 2, 0} {
			if there < 0 || there >= n {
				continue
			}
			what := fmt.Sprintf("%d bytes of %d", there, n)
			r := codec.NewReader(slices.Concat([]byte{1}, numberBytes(uint64(n), 2), bytes.Repeat([]byte{'a'}, there)))
			r.Number(1)
			if b := r.Bytes(n); len(b) != 0 {
				t.Errorf("%s: %d bytes", what, len(b))
			}
			wantRefused(t, what, r, there+3, api.ErrEnd)
		}
	}
}

// TestCountsThatEnd: a count that is not there whole is no count above most.
func TestCountsThatEnd(t *testing.T) {
	for _, text := range [][]byte{nil, {0}, {9}, {0xff}} {
		for _, most := range []int{math.MinInt, -1, 0, 1, 65535, math.MaxInt} {
			what := fmt.Sprintf("%x, at most %d", text, most)
			r := codec.NewReader(text)
			if b := r.Bytes(most); len(b) != 0 {
				t.Errorf("%s: %x", what, b)
			}
			wantRefused(t, what, r, len(text), api.ErrEnd)
		}
	}
}

func TestReadDigests(t *testing.T) {
	random := rand.New(rand.NewSource(27))
	for length := range 70 {
		what := fmt.Sprintf("a digest of %d bytes", length)
		text := someBytes(random, length)
		r := codec.NewReader(text)
		got := r.Digest()
		if length < 32 {
			if got != (api.Digest{}) {
				t.Errorf("%s: %x", what, got)
			}
			wantRefused(t, what, r, length, api.ErrEnd)
			continue
		}
		if got != api.Digest(text[:32]) {
			t.Errorf("%s: %x of %x", what, got, text)
		}
		if length == 32 {
			wantEnd(t, what, r)
		} else {
			wantRefusal(t, what, r.End(), 32, api.ErrTail)
		}
	}
}

func TestFail(t *testing.T) {
	for place := range 5 {
		for _, why := range append(slices.Clone(errnos), -1, 2, 999, math.MinInt, math.MaxInt) {
			what := fmt.Sprintf("Fail with %d at %d", why, place)
			r := codec.NewReader([]byte{1, 2, 3, 4})
			for range place {
				r.Number(1)
			}
			r.Fail(why)
			if why != api.OK {
				wantRefused(t, what, r, place, why)
			}
		}
	}
}

// TestFailWithOK: it is nothing, ahead of a refusal and behind one.
func TestFailWithOK(t *testing.T) {
	r := codec.NewReader([]byte{1, 2, 3})
	r.Fail(api.OK)
	if n := r.Number(1); n != 1 {
		t.Errorf("a number behind it: %d", n)
	}
	r.Fail(api.OK)
	wantRefusal(t, "bytes left", r.End(), 1, api.ErrTail)
	r.Number(1)
	r.Fail(api.ErrForm)
	r.Fail(api.OK)
	wantRefused(t, "a Fail behind it", r, 2, api.ErrForm)
	r = codec.NewReader(nil)
	r.Fail(api.OK)
	wantEnd(t, "nothing", r)
}

// TestFirstRefusalStays: of two refusals of every two kinds it is the first that is told.
func TestFirstRefusalStays(t *testing.T) {
	text := []byte{0xaa, 0, 5, 'a', 'b'}
	kinds := []struct {
		refuse func(*codec.Reader)
		at     int
		why    api.Errno
	}{
		{func(r *codec.Reader) { r.Number(8) }, 5, api.ErrEnd},
		{func(r *codec.Reader) { r.Digest() }, 5, api.ErrEnd},
		{func(r *codec.Reader) { r.Bytes(5) }, 5, api.ErrEnd},
		{func(r *codec.Reader) { r.Bytes(4) }, 1, api.ErrLong},
		{func(r *codec.Reader) { r.Fail(api.ErrDenied) }, 1, api.ErrDenied},
	}
	for i, first := range kinds {
		for j, second := range kinds {
			r := codec.NewReader(text)
			r.Number(1)
			first.refuse(r)
			second.refuse(r)
			wantRefused(t, fmt.Sprintf("kinds %d, %d", i, j), r, first.at, first.why)
		}
	}
}

// TestEndChangesNothing: what End tells of bytes that are left is no refusal that stays.
func TestEndChangesNothing(t *testing.T) {
	text := []byte{1, 2, 3, 4, 5}
	r := codec.NewReader(text)
	for i, b := range text {
		for range 2 {
			wantRefusal(t, "bytes left", r.End(), i, api.ErrTail)
		}
		if n := r.Number(1); n != uint64(b) {
			t.Errorf("byte %d: %d", i, n)
		}
	}
	for range 2 {
		wantEnd(t, "all read", r)
	}
	r.Number(1)
	wantRefused(t, "one more", r, 5, api.ErrEnd)
}

// TestEndIsNewEachTime: a Refusal that is changed is not the Reader's.
func TestEndIsNewEachTime(t *testing.T) {
	left, failed := codec.NewReader([]byte{1}), codec.NewReader([]byte{1})
	failed.Fail(api.ErrForm)
	for _, c := range []struct {
		r   *codec.Reader
		why api.Errno
	}{{left, api.ErrTail}, {failed, api.ErrForm}} {
		a, b := c.r.End().(*codec.Refusal), c.r.End().(*codec.Refusal)
		if a == b {
			t.Errorf("%d: one Refusal twice", c.why)
		}
		*a = codec.Refusal{At: 77, Why: api.OK}
		wantRefusal(t, "another answer", b, 0, c.why)
		wantRefusal(t, "a later answer", c.r.End(), 0, c.why)
	}
	if n := left.Number(1); n != 1 {
		t.Errorf("read behind it: %d", n)
	}
}

// TestRefusalsByHand: a Refusal wraps its number whoever made it.
func TestRefusalsByHand(t *testing.T) {
	for _, why := range errnos {
		for _, at := range []int{math.MinInt, -1, 0, 1, math.MaxInt} {
			wantRefusal(t, "by hand", &codec.Refusal{At: at, Why: why}, at, why)
		}
	}
}

// TestReaderKeepsNoBytes: R2 and R5, what is handed in is neither changed nor kept, and its room not read.
func TestReaderKeepsNoBytes(t *testing.T) {
	random := rand.New(rand.NewSource(28))
	word, digest := []byte("word"), someDigest(random)
	b, whole := roomy(slices.Concat([]byte{5}, textBytes(word), digest[:]))
	before := slices.Clone(whole)
	r := codec.NewReader(b)
	spoil(b)
	spoiled := slices.Clone(whole)
	if n := r.Number(1); n != 5 {
		t.Errorf("a number: %d", n)
	}
	got := r.Bytes(4)
	if !bytes.Equal(got, word) {
		t.Errorf("a text: %q", got)
	}
	if d := r.Digest(); d != digest {
		t.Errorf("a digest: %x", d)
	}
	wantEnd(t, "all read", r)
	spoil(got)
	if !bytes.Equal(whole, spoiled) {
		t.Error("reading changed what was handed in")
	}
	spoil(b)
	if !bytes.Equal(whole, before) {
		t.Error("what was handed in was changed")
	}
	for _, read := range []func(*codec.Reader){func(r *codec.Reader) { r.Number(1) }, func(r *codec.Reader) { r.Bytes(65535) }, func(r *codec.Reader) { r.Digest() }} {
		r := codec.NewReader(b)
		r.Number(1)
		r.Bytes(4)
		r.Digest()
		read(r)
		wantRefused(t, "room behind the bytes", r, len(b), api.ErrEnd)
	}
}

// TestTextsAreNewMemory: R2, a text changed, its room included, changes nothing that is read later or was read.
func TestTextsAreNewMemory(t *testing.T) {
	text := slices.Concat(textBytes([]byte("abc")), textBytes(nil), textBytes([]byte("defg")), textBytes([]byte("hi")))
	r := codec.NewReader(text)
	first := r.Bytes(3)
	kept := slices.Clone(first[:cap(first)])
	for _, want := range []string{"", "defg", "hi"} {
		got := r.Bytes(9)
		if string(got) != want {
			t.Errorf("%q, not %q", got, want)
		}
		spoil(got)
	}
	if !bytes.Equal(first[:cap(first)], kept) {
		t.Errorf("an answer was changed by another: %q", first)
	}
	wantEnd(t, "all read", r)
	r = codec.NewReader(text)
	spoil(r.Bytes(3))
	if b, c := r.Bytes(0), r.Bytes(4); len(b) != 0 || string(c) != "defg" {
		t.Errorf("behind a text that was changed: %q, %q", b, c)
	}
	if again := codec.NewReader(text).Bytes(3); string(again) != "abc" {
		t.Errorf("another Reader: %q", again)
	}
}

// TestNoBytesIsNil: R4.
func TestNoBytesIsNil(t *testing.T) {
	some := []byte("some")
	for _, b := range [][]byte{nil, {}, some[:0]} {
		r := codec.NewReader(b)
		wantEnd(t, "nothing", r)
		r.Digest()
		wantRefused(t, "a digest of nothing", r, 0, api.ErrEnd)
	}
}
