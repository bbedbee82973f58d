package kv_test

import (
	"fmt"
	"iter"
	"math/rand"
	"testing"

	"deponent/api"
	"deponent/btree"
	"deponent/disk"
	"deponent/kv"
)

// alphabet answers a store of the keys a, c, e, .. y in each of some spaces, the first, the last, and such side by side.
func alphabet(t *testing.T) (*disk.Disk, book) {
	t.Helper()
	want := book{}
	for _, space := range []byte{0, 1, 2, 100, 254, 255} {
		for c := byte('a'); c <= 'y'; c += 2 {
			want = want.with(put(space, string([]byte{c}), fmt.Sprint(space, c)))
		}
	}
	return holding(t, want), want
}

// large answers a store that lies on many pages, of three spaces side by side.
func large(t *testing.T) (*disk.Disk, book) {
	t.Helper()
	want := book{}
	for n := range 90 {
		want = want.with(put(byte(7+n/30), fmt.Sprintf("%03d%s", n*29%90, letters(api.MaxKey-4)), letters(300+n)))
	}
	return holding(t, want), want
}

// wantRange tells that a range hands out what the book has there, when it is ranged over for the first time and the second one.
func wantRange(t *testing.T, s *kv.Store, want book, space byte, from string) {
	t.Helper()
	seq := s.Range(space, []byte(from))
	for round := range 2 {
		got := ""
		for p := range seq {
			got += pairText(string(p.Key), string(p.Value))
		}
		if got != want.space(space, from) {
			t.Fatalf("Range(%d, %q), round %d: %s, want %s", space, from, round, got, want.space(space, from))
		}
	}
}

// TestRanges: P7.3, from keys that are there, from others ahead of, between and behind them, in spaces that have pairs, and in such that have none.
func TestRanges(t *testing.T) {
	d, want := alphabet(t)
	s := opened(t, d, 0)
	for space := range 256 {
		wantRange(t, s, want, byte(space), "")
	}
	for _, space := range []byte{0, 1, 2, 3, 99, 100, 101, 253, 254, 255} {
		for _, from := range []string{"\x00", "\x01", "A", "a", "a\x00", "aa", "b", "m", "m\x00", "x", "xyz", "y", "y\x00", "z", "\xff", "\xff\xff", letters(39), letters(40), letters(41), letters(1000), "\xff" + letters(100)} {
			wantRange(t, s, want, space, from)
		}
	}
}

// TestRangesOfManyPages: P7.3, the same of a store on many pages.
func TestRangesOfManyPages(t *testing.T) {
	d, want := large(t)
	s := opened(t, d, 0)
	for _, space := range []byte{0, 6, 7, 8, 9, 10, 255} {
		wantRange(t, s, want, space, "")
		for n := range want {
			wantRange(t, s, want, space, n.key)
			wantRange(t, s, want, space, n.key+"\x00")
			wantRange(t, s, want, space, n.key[:3])
		}
	}
}

// TestNoFrom: P7.3, R4, nil and empty keys to begin with are the same: all of the space.
func TestNoFrom(t *testing.T) {
	d, want := alphabet(t)
	s := opened(t, d, 0)
	for _, from := range [][]byte{nil, {}, []byte("m")[:0]} {
		for _, space := range []byte{0, 1, 255} {
			if got := told(s, space, from); got != want.space(space, "") {
				t.Fatalf("Range(%d, nothing): %s", space, got)
			}
		}
	}
}

// firstKeys answers the first so many keys of a range, which is left behind them.
func firstKeys(seq iter.Seq[btree.Pair], count int) string {
	out := ""
	if count == 0 {
		return out
	}
	for p := range seq {
		out += string(p.Key) + " "
		if count--; count == 0 {
			break
		}
	}
	return out
}

// TestLeftEarly: P7.3, a range may be left at any pair, and begins anew when it is ranged over again.
func TestLeftEarly(t *testing.T) {
	for _, lay := range []func(*testing.T) (*disk.Disk, book){alphabet, large} {
		d, want := lay(t)
		s := opened(t, d, 0)
		for _, space := range []byte{0, 7, 8, 255} {
			seq := s.Range(space, nil)
			all, keys := "", 0
			for p := range seq {
				all += string(p.Key) + " "
				keys++
			}
			length := 0
			for count := range keys + 2 {
				got := firstKeys(seq, count)
				if all[:len(got)] != got || count > 0 && len(got) <= length && len(got) < len(all) {
					t.Fatalf("left at %d: %s", count, got)
				}
				length = len(got)
			}
			if length != len(all) {
				t.Fatalf("not left: %d of %d bytes", length, len(all))
			}
		}
		wantBook(t, "left early", s, want)
	}
}

// TestAskedNoMore: P7.3, a range that was left hands out nothing any more.
func TestAskedNoMore(t *testing.T) {
	d, _ := alphabet(t)
	calls := 0
	opened(t, d, 0).Range(0, nil)(func(btree.Pair) bool {
		calls++
		return calls < 3
	})
	if calls != 3 {
		t.Fatalf("%d pairs were handed out, want 3", calls)
	}
}

// TestRangesWithinRanges: P7.3, ranges and other calls within ranges don't disturb each other.
func TestRangesWithinRanges(t *testing.T) {
	d, want := alphabet(t)
	s := opened(t, d, 0)
	seq := s.Range(1, nil)
	n := 0
	for p := range seq {
		for q := range seq {
			if string(q.Key) == string(p.Key) {
				n++
				break
			}
		}
		wantGet(t, "within a range", s, 2, string(p.Key), want[name{2, string(p.Key)}], true)
		wantRange(t, s, want, 255, string(p.Key))
		wantUsed(t, "within a range", s, want.used())
	}
	if n != 13 {
		t.Fatalf("%d keys, want 13", n)
	}
}

// TestAsksChangeNothing: P7.3, neither Range, Get nor Used writes, and all work on a disk that is stopped.
func TestAsksChangeNothing(t *testing.T) {
	d, want := large(t)
	s := opened(t, d, 0)
	was := image(d)
	d.Stop(0)
	wantBook(t, "stopped", s, want)
	wantGet(t, "stopped", s, 7, "none", "", false)
	if image(d) != was || d.Pending() != 0 {
		t.Fatal("something was written")
	}
}

// TestRangeOfOtherTimes: P7.3, a range tells what there is when it is ranged over, again too.
func TestRangeOfOtherTimes(t *testing.T) {
	_, s := fresh(t, api.MaxStore)
	seq := s.Range(5, []byte("b"))
	want := book{}
	for _, l := range [][]kv.Change{{put(5, "a", "1"), put(5, "b", "2")}, {put(5, "c", "3"), put(6, "a", "9")}, {drop(5, "b")}, {put(5, "d", letters(400)), put(5, "e", letters(400)), put(4, "f", letters(400))}} {
		wantDo(t, "between", s, api.OK, l...)
		want = want.with(l...)
		got := ""
		for p := range seq {
			got += pairText(string(p.Key), string(p.Value))
		}
		if got != want.space(5, "b") {
			t.Fatalf("ranged over again: %s, want %s", got, want.space(5, "b"))
		}
	}
}

// TestChangedMeanwhile: R1, a range over a space that is changed meanwhile ends, its keys go up, and none of another space comes.
func TestChangedMeanwhile(t *testing.T) {
	r := rand.New(rand.NewSource(1))
	for round := range 4 {
		d, _ := large(t)
		s := opened(t, d, api.MaxStore)
		last := ""
		for p := range s.Range(8, nil) {
			if string(p.Key) <= last || p.Key[0] == 'n' {
				t.Fatalf("%q behind %q", p.Key, last)
			}
			last = string(p.Key)
			l := []kv.Change{drop(8, last), put(9, "none"+last[:3], "")}
			for range r.Intn(round + 1) {
				l = append(l, put(8, fmt.Sprintf("%03d", r.Intn(90)), letters(r.Intn(401))))
			}
			wantDo(t, "meanwhile", s, api.OK, l...)
		}
	}
}

// TestGetOfOthers: P7.3, keys that aren't there, ahead of, between and behind those that are, beside keys in other spaces.
func TestGetOfOthers(t *testing.T) {
	for _, lay := range []func(*testing.T) (*disk.Disk, book){alphabet, large} {
		d, want := lay(t)
		s := opened(t, d, 0)
		for n := range want {
			for _, space := range []byte{0, n.space - 1, n.space, n.space + 1, n.key[0], 255} {
				for _, other := range []string{"", n.key, n.key + "\x00", n.key + n.key, n.key[1:], n.key[:len(n.key)-1], string([]byte{n.space}) + n.key, "\xff" + n.key, letters(100)} {
					v, ok := want[name{space, other}]
					wantGet(t, "others", s, space, other, v, ok)
				}
			}
		}
	}
}
