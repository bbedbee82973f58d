package pages_test

import (
	"bytes"
	"slices"
	"testing"

	"deponent/api"
	"deponent/disk"
	"deponent/pages"
)

// spoil changes all of b, its spare room too.
func spoil(b []byte) {
	b = b[:cap(b)]
	for i := range b {
		b[i] ^= 0xa5
	}
}

// TestHandedInIsLeft: R2, Put neither changes nor keeps the sheets, their list, their bytes, nor the room behind these.
func TestHandedInIsLeft(t *testing.T) {
	for _, stop := range []int{1000, 0, 5, 20, 30, 40} {
		d, s := fresh(t)
		all := make([]byte, 0, 5*api.Page)
		for k := range 5 {
			all = append(all, patterned(k)...)
		}
		l := []pages.Sheet{
			{N: 9, B: all[10 : 10+api.Page]},
			{N: 2, B: all[1500 : 1500+api.Page : 1500+api.Page]},
			{N: 5, B: all[3000 : 3000+api.Page]},
			{N: 1, B: []byte("behind the end")},
		}
		was, wasAll := slices.Clone(l), bytes.Clone(all)
		want := book{}.with(pages.Sheet{N: 9, B: bytes.Clone(l[0].B)}, pages.Sheet{N: 2, B: bytes.Clone(l[1].B)}, pages.Sheet{N: 5, B: bytes.Clone(l[2].B)})
		d.Stop(stop)
		why := s.Put(l[:3]...)
		if !bytes.Equal(all, wasAll) || !slices.EqualFunc(l, was, same) {
			t.Fatalf("stopped after %d: what was handed in was changed", stop)
		}
		spoil(all)
		l[0], l[1], l[2] = pages.Sheet{}, l[0], pages.Sheet{N: 7}
		if why == api.OK {
			wantBook(t, "spoilt", s, want)
			d.Crash(disk.Cut{})
			wantBook(t, "spoilt, opened", opened(t, d), want)
			continue
		}
		d.Crash(disk.Cut{})
		if got := bookOf(t, opened(t, d)).String(); got != want.String() && got != "" {
			t.Fatalf("stopped after %d, spoilt: %s", stop, got)
		}
	}
}

// same tells whether two sheets are one, in the same memory.
func same(a, b pages.Sheet) bool {
	return a.N == b.N && len(a.B) == len(b.B) && cap(a.B) == cap(b.B) && (len(a.B) == 0 || &a.B[0] == &b.B[0])
}

// TestRefusedIsLeft: R2, neither does a Put that is refused.
func TestRefusedIsLeft(t *testing.T) {
	_, s := fresh(t)
	for _, l := range [][]pages.Sheet{
		{sheet(9, 1), sheet(3, 2), sheet(9, 3)},
		{sheet(9, 1), sheet(3, 2), sheet(-1, 3)},
		{sheet(9, 1), {N: 2, B: full(1, 5)}, sheet(1, 3)},
		sheets(1, 300, 3, 2, 1, 0, 512),
	} {
		was := slices.Clone(l)
		text := fullText(l)
		wantPut(t, "wrong", s, api.ErrArg, l...)
		if !slices.EqualFunc(l, was, same) || fullText(l) != text {
			t.Fatal("what was handed in was changed")
		}
	}
}

func fullText(l []pages.Sheet) string {
	var b []byte
	for _, s := range l {
		b = append(b, s.B[:cap(s.B)]...)
	}
	return string(b)
}

// TestAnsweredIsNew: R2, a page that was read is memory of its own, its spare room too, be it home, never put, or in flight.
func TestAnsweredIsNew(t *testing.T) {
	for stop := range 60 {
		d, s := fresh(t)
		wantPut(t, "ahead", s, api.OK, sheet(3, 1), sheet(4, 2))
		d.Stop(stop)
		s.Put(sheet(4, 3), sheet(6, 4))
		d.Crash(disk.Cut{})
		s = opened(t, d)
		want := bookOf(t, s)
		for _, n := range []int{3, 4, 5, 6} {
			first, _ := s.Read(n)
			was := bytes.Clone(first)
			second, _ := s.Read(n)
			spoil(second)
			if !bytes.Equal(first, was) {
				t.Fatalf("stopped after %d: an earlier answer was changed", stop)
			}
			spoil(first)
		}
		wantBook(t, "spoilt", s, want)
		wantPut(t, "spoilt", s, api.OK, sheet(8, 5))
		wantBook(t, "spoilt, opened", opened(t, d), want.with(sheet(8, 5)))
	}
}
