package kv_test

import (
	"fmt"
	"slices"
	"strings"
	"testing"

	"deponent/api"
	"deponent/btree"
	"deponent/disk"
	"deponent/kv"
)

// wantRefused tells that a Do is refused with that number and changes nothing; so it is on a disk that is stopped and has a write pending: what is refused has its number ahead of what the disk refuses.
func wantRefused(t *testing.T, what string, d *disk.Disk, bound int, want api.Errno, l ...kv.Change) {
	t.Helper()
	was, all := image(d), toldAll(opened(t, d, bound))
	e := d.Copy()
	s, y := opened(t, d, bound), opened(t, e, bound)
	wantDo(t, what, s, want, l...)
	b, _ := e.Read(api.Need - 1)
	e.Write(api.Need-1, b)
	e.Stop(0)
	wantDo(t, what+", stopped", y, want, l...)
	if image(d) != was || d.Pending() != 0 || image(e) != was || e.Pending() != 1 {
		t.Fatalf("%s: a refused Do has written", what)
	}
	for _, x := range []*kv.Store{s, y, opened(t, d, bound)} {
		if toldAll(x) != all {
			t.Fatalf("%s: a refused Do has changed the pairs", what)
		}
	}
}

// TestSizesOfKeys: P7.2, keys have 1 to MaxKey - 1 bytes, in any space.
func TestSizesOfKeys(t *testing.T) {
	d, s := fresh(t, api.MaxStore)
	want := book{}
	for size := 1; size < api.MaxKey; size++ {
		for _, space := range []byte{0, 120, 255} {
			c := put(space, letters(size), fmt.Sprint(size, space))
			wantDo(t, "a key", s, api.OK, c)
			want = want.with(c)
		}
	}
	wantBook(t, "keys of all sizes", s, want)
	for _, size := range []int{0, api.MaxKey, api.MaxKey + 1, api.MaxKey + 2, 2 * api.MaxKey, 255, 256, 257, 1 << 16, 1<<16 + 1} {
		what := fmt.Sprintf("a key of %d bytes", size)
		for _, space := range []byte{0, 120, 255} {
			wantRefused(t, what, d, api.MaxStore, api.ErrArg, put(space, letters(size), "v"))
			wantRefused(t, what+", dropped", d, api.MaxStore, api.ErrArg, drop(space, letters(size)))
			wantGet(t, what, s, space, letters(size), "", false)
		}
	}
	for size := 1; size < api.MaxKey; size += 2 {
		wantDo(t, "a key", s, api.OK, drop(120, letters(size)))
		want = want.with(drop(120, letters(size)))
	}
	wantBook(t, "dropped ones", opened(t, d, 0), want)
}

// TestNoKey: P7.2, R4, a key that is nil or empty, whatever room is behind it.
func TestNoKey(t *testing.T) {
	d, s := fresh(t, 100)
	wantDo(t, "ahead", s, api.OK, put(1, "a", "1"))
	for _, key := range [][]byte{nil, {}, []byte("abc")[:0]} {
		wantRefused(t, "no key", d, 100, api.ErrArg, kv.Change{Space: 1, Key: key, Value: []byte("v")})
		wantRefused(t, "no key, dropped", d, 100, api.ErrArg, kv.Change{Space: 1, Key: key, Drop: true})
		if v, ok := s.Get(1, key); ok || v != nil {
			t.Fatalf("Get of no key: %q, %v", v, ok)
		}
	}
	wantRefused(t, "no change at all", d, 100, api.ErrArg, kv.Change{})
}

// TestSizesOfValues: P7.2, values have at most MaxValue bytes, those of a Drop too.
func TestSizesOfValues(t *testing.T) {
	d, s := fresh(t, api.MaxStore)
	want := book{}
	for _, size := range []int{0, 1, 2, 127, 128, 255, 256, api.MaxValue - 1, api.MaxValue} {
		for space, key := range []string{fmt.Sprint(size), "again", strings.Repeat(fmt.Sprint(size%10), api.MaxKey-1)} {
			c := put(byte(space), key, letters(size))
			wantDo(t, "a value", s, api.OK, c)
			want = want.with(c)
		}
		wantBook(t, fmt.Sprintf("a value of %d bytes", size), s, want)
	}
	for _, size := range []int{api.MaxValue + 1, api.MaxValue + 2, 2 * api.MaxValue, api.Page, 1 << 16, 1<<16 + 1} {
		what := fmt.Sprintf("a value of %d bytes", size)
		wantRefused(t, what, d, api.MaxStore, api.ErrArg, put(1, "again", letters(size)))
		wantRefused(t, what+", dropped", d, api.MaxStore, api.ErrArg, kv.Change{Space: 1, Key: []byte("again"), Value: []byte(letters(size)), Drop: true})
	}
	c := kv.Change{Space: 1, Key: []byte("again"), Value: []byte(letters(api.MaxValue)), Drop: true}
	wantDo(t, "a Drop with a value", s, api.OK, c)
	wantBook(t, "a Drop with a value", opened(t, d, 0), want.with(c))
}

// TestNoValue: P7.2, R4, a value that is nil or empty is one, and takes the place of another one.
func TestNoValue(t *testing.T) {
	for _, value := range [][]byte{nil, {}, []byte("abc")[:0]} {
		d, s := fresh(t, 100)
		wantDo(t, "ahead", s, api.OK, put(3, "a", "1"), put(3, "b", "2"))
		wantDo(t, "no value", s, api.OK, kv.Change{Space: 3, Key: []byte("a"), Value: value})
		want := book{{3, "a"}: "", {3, "b"}: "2"}
		wantBook(t, "no value", s, want)
		wantUsed(t, "no value", s, 5)
		wantBook(t, "no value", opened(t, d, 0), want)
	}
}

// TestHowManyChanges: P7.2, the limit MaxChanges, whatever the changes are.
func TestHowManyChanges(t *testing.T) {
	d, s := fresh(t, api.MaxStore)
	var l []kv.Change
	for n := range 3 * api.MaxChanges {
		l = append(l, put(byte(n*7), fmt.Sprintf("%03d", n*7%240), letters(n%200)))
	}
	same, drops := slices.Repeat([]kv.Change{put(1, "a", "1")}, 200), slices.Repeat([]kv.Change{drop(2, "b")}, 200)
	for _, count := range []int{api.MaxChanges + 1, api.MaxChanges + 2, 2 * api.MaxChanges, 200} {
		wantRefused(t, "too many", d, api.MaxStore, api.ErrArg, l[:count]...)
		wantRefused(t, "too many of one key", d, api.MaxStore, api.ErrArg, same[:count]...)
		wantRefused(t, "too many Drops", d, api.MaxStore, api.ErrArg, drops[:count]...)
	}
	want := book{}
	for _, some := range [][]kv.Change{l[:api.MaxChanges], l[80:159], l[159:239], same[:api.MaxChanges], drops[:api.MaxChanges]} {
		wantDo(t, "many", s, api.OK, some...)
		want = want.with(some...)
		wantBook(t, "many", s, want)
	}
	wantBook(t, "many", opened(t, d, 0), want)
}

// TestLargestDo: P7.2, MaxChanges changes of the largest keys and values, which are put, and put anew, and dropped, at once.
func TestLargestDo(t *testing.T) {
	d, s := fresh(t, api.MaxStore)
	var puts, others, drops []kv.Change
	for n := range api.MaxChanges {
		key := fmt.Sprintf("%02d%s", n, letters(api.MaxKey-3))
		puts = append(puts, put(byte(n), key, letters(api.MaxValue)))
		others = append(others, put(byte(n), key, strings.Repeat("y", api.MaxValue)))
		drops = append(drops, drop(byte(n), key))
	}
	want := book{}
	for _, l := range [][]kv.Change{puts, others, drops} {
		wantDo(t, "the largest", s, api.OK, l...)
		want = want.with(l...)
		wantBook(t, "the largest", opened(t, d, 0), want)
	}
}

// TestDoOfNothing: P7.2, R4, no changes, nil or empty, are OK and write nothing, over the bound too.
func TestDoOfNothing(t *testing.T) {
	d, s := fresh(t, 100)
	wantDo(t, "nothing in nothing", s, api.OK)
	wantDo(t, "ahead", s, api.OK, put(1, "a", "1"))
	was := image(d)
	for _, bound := range []int{0, 2, 3, 100} {
		s := opened(t, d, bound)
		for _, l := range [][]kv.Change{nil, {}, make([]kv.Change, 0, 3), []kv.Change{put(2, "b", "2")}[:0]} {
			wantDo(t, "nothing", s, api.OK, l...)
		}
	}
	if image(d) != was || d.Pending() != 0 {
		t.Fatal("Do of nothing has written")
	}
}

// TestOneKeyAgain: P7.2, changes of one key are done in order, with others between them or not, of a key that was there or not; what they make is counted once.
func TestOneKeyAgain(t *testing.T) {
	a, b, gone := put(4, "k", "1"), put(4, "k", "22"), drop(4, "k")
	for _, l := range [][]kv.Change{
		{a}, {gone}, {a, b}, {b, a}, {a, gone}, {gone, a}, {a, gone, b}, {gone, a, gone}, {gone, gone},
		{a, gone, a, gone, b, a}, {a, put(3, "k", "5"), gone, put(5, "k", "6"), b, drop(3, "k")},
		{put(4, "kk", "7"), a, put(4, "k\x00", "8"), drop(4, "kk"), b}, append(slices.Repeat([]kv.Change{a, b, gone}, 26), put(4, "k", letters(400))),
	} {
		for _, ahead := range []book{{}, {{4, "k"}: "0"}, {{3, "k"}: "0", {4, "k"}: "", {5, "k"}: "0"}, {{4, "kk"}: letters(400)}} {
			after := ahead.with(l...)
			for _, bound := range []int{after.used(), max(0, after.used()-1)} {
				d := holding(t, ahead)
				s := opened(t, d, bound)
				what := fmt.Sprintf("%v, then %v, bound %d", ahead, book{}.with(l...), bound)
				if after.used() > bound && after.used() > ahead.used() {
					wantRefused(t, what, d, bound, api.ErrFull, l...)
					continue
				}
				wantDo(t, what, s, api.OK, l...)
				wantBook(t, what, s, after)
				d.Crash(disk.Cut{})
				wantBook(t, what, opened(t, d, bound), after)
			}
		}
	}
}

// holding answers a disk with a store that has what the book has.
func holding(t *testing.T, want book) *disk.Disk {
	t.Helper()
	d, s := fresh(t, api.MaxStore)
	var l []kv.Change
	for n, v := range want {
		l = append(l, put(n.space, n.key, v))
	}
	slices.SortFunc(l, func(a, b kv.Change) int {
		return slices.Compare(append([]byte{a.Space}, a.Key...), append([]byte{b.Space}, b.Key...))
	})
	for some := range slices.Chunk(l, api.MaxChanges) {
		wantDo(t, "ahead", s, api.OK, some...)
	}
	wantBook(t, "ahead", s, want)
	return d
}

// TestDropOfNone: P7.2, Drops of keys that aren't there, in spaces that have others, and in such that have none.
func TestDropOfNone(t *testing.T) {
	want := book{{1, "a"}: "1", {1, "c"}: "3", {255, "a"}: "4"}
	for _, bound := range []int{0, 5, 9, 100} {
		d := holding(t, want)
		s := opened(t, d, bound)
		for _, c := range []kv.Change{drop(0, "a"), drop(1, "b"), drop(1, "\x00"), drop(1, "aa"), drop(1, "\xff"), drop(2, "a"), drop(254, "a"), drop(255, "b"), drop(1, letters(39))} {
			wantDo(t, "a key that isn't there", s, api.OK, c)
			wantDo(t, "a key that isn't there, twice", s, api.OK, c, c)
			wantBook(t, fmt.Sprint("dropped ", c), s, want)
		}
	}
}

// TestAtTheBound: P7.2, Used may be just the bound, but not one above it, in one Do or in several, in one space or in several.
func TestAtTheBound(t *testing.T) {
	for _, bound := range []int{2, 3, 10, 100, 401, 1000} {
		d, s := fresh(t, bound)
		var l []kv.Change
		for n, left := 0, bound; left > 0; n++ {
			size := min(left, 300)
			if left-size == 1 {
				size--
			}
			l = append(l, put(byte(n*100), "k", letters(size-2)))
			left -= size
		}
		last := &l[len(l)-1]
		over := slices.Clone(l)
		over[len(over)-1] = put(last.Space, "k", string(last.Value)+"x")
		wantRefused(t, "one above the bound at once", d, bound, api.ErrFull, over...)
		for _, c := range l[:len(l)-1] {
			wantDo(t, "below the bound", s, api.OK, c)
		}
		wantRefused(t, "one above the bound", d, bound, api.ErrFull, over[len(over)-1])
		wantDo(t, "at the bound", s, api.OK, *last)
		want := book{}.with(l...)
		wantUsed(t, "at the bound", s, bound)
		wantRefused(t, "above the bound", d, bound, api.ErrFull, put(9, "k", ""))
		wantRefused(t, "a longer key", d, bound, api.ErrFull, put(last.Space, "kk", string(last.Value)), drop(last.Space, "k"))
		wantRefused(t, "a longer value", d, bound, api.ErrFull, over[len(over)-1])
		wantRefused(t, "a Drop of none beside it", d, bound, api.ErrFull, over[len(over)-1], drop(9, "k"))
		wantDo(t, "the same again", s, api.OK, l...)
		wantBook(t, "at the bound", opened(t, d, bound), want)
	}
}

// TestNoRoom: P7.2, a bound of 0 and of 1: no pair fits, but what comes and goes within one Do is no more behind it.
func TestNoRoom(t *testing.T) {
	for _, bound := range []int{0, 1} {
		d, s := fresh(t, bound)
		wantRefused(t, "the least pair", d, bound, api.ErrFull, put(0, "k", ""))
		wantRefused(t, "the least pair, behind a Drop", d, bound, api.ErrFull, drop(0, "k"), put(0, "k", ""))
		wantDo(t, "a pair that goes", s, api.OK, put(0, "k", letters(400)), drop(0, "k"))
		wantDo(t, "a Drop of none", s, api.OK, drop(0, "k"))
		wantBook(t, "no room", s, book{})
	}
}

// TestRoomWithinADo: P7.2, only what there is behind all changes is held against the bound, in whichever order they make room and take it.
func TestRoomWithinADo(t *testing.T) {
	ahead := book{{1, "a"}: letters(7), {2, "a"}: letters(7), {255, "zz"}: ""} // 9 + 9 + 3
	for _, l := range [][]kv.Change{
		{drop(1, "a"), put(3, "b", letters(7))},
		{put(3, "b", letters(7)), drop(1, "a")},
		{put(3, "b", letters(400)), put(3, "b", letters(7)), drop(2, "a")},
		{put(3, "b", letters(400)), put(4, "b", letters(400)), drop(3, "b"), drop(4, "b")},
		{put(1, "a", letters(400)), put(1, "a", letters(7))},
		{put(1, "a", letters(10)), put(2, "a", letters(4))},
		{put(2, "a", ""), put(1, "a", letters(14))},
		{drop(255, "zz"), put(255, "z", "z")},
		{drop(255, "zz"), put(254, "z", ""), put(1, "a", letters(8))},
		{drop(1, "a"), put(1, "a", letters(7))},
	} {
		d := holding(t, ahead)
		s := opened(t, d, ahead.used())
		wantDo(t, "room within a Do", s, api.OK, l...)
		wantBook(t, "room within a Do", opened(t, d, 0), ahead.with(l...))
		if got := ahead.with(l...).used(); got != 21 {
			t.Fatalf("%v: %d bytes", l, got)
		}
		d = holding(t, ahead)
		wantRefused(t, "one byte more", d, 21, api.ErrFull, append(slices.Clone(l), put(9, "k", ""), put(255, "zz", ""))...)
	}
}

// TestOverItsBound: P7.2, a Store over its bound, by a lower one at Open: what is dropped, becomes less or stays may be, though it is over it still; what becomes more may not, even by one byte.
func TestOverItsBound(t *testing.T) {
	ahead := book{{1, "a"}: letters(50), {1, "b"}: letters(50), {200, "a"}: letters(50)} // 156
	for _, bound := range []int{0, 1, 10, 100, 155} {
		for _, l := range [][]kv.Change{
			{drop(1, "a")},
			{put(1, "a", letters(49))},
			{put(1, "a", strings.Repeat("y", 50))},
			{put(1, "a", letters(50)), put(1, "b", letters(50))},
			{put(1, "a", letters(51)), put(1, "b", letters(49))},
			{put(7, "new", letters(48)), drop(200, "a")},
			{drop(200, "a"), put(7, "new", letters(47))},
			{drop(9, "none")},
			{drop(1, "a"), drop(1, "b"), drop(200, "a")},
			{put(7, "new", letters(400)), drop(7, "new")},
		} {
			d := holding(t, ahead)
			s := opened(t, d, bound)
			wantBook(t, "over its bound", s, ahead)
			wantDo(t, fmt.Sprintf("over its bound of %d: %.100v", bound, l), s, api.OK, l...)
			wantBook(t, "over its bound, done", opened(t, d, bound), ahead.with(l...))
		}
		d := holding(t, ahead)
		for _, l := range [][]kv.Change{
			{put(1, "a", letters(51))},
			{put(7, "k", "")},
			{put(7, "new", letters(49)), drop(200, "a")},
			{drop(200, "a"), put(7, "new", letters(49))},
			{put(1, "a", letters(50)), put(1, "b", letters(51))},
			{drop(1, "a"), put(1, "a", letters(51))},
			{drop(9, "none"), put(1, "a", letters(51))},
		} {
			wantRefused(t, fmt.Sprintf("more, over its bound of %d", bound), d, bound, api.ErrFull, l...)
		}
	}
}

// TestBackBelowTheBound: P7.2, a Store that was over its bound takes what fits it, once it is below it.
func TestBackBelowTheBound(t *testing.T) {
	ahead := book{{1, "a"}: letters(50), {1, "b"}: letters(50), {200, "a"}: letters(50)}
	d := holding(t, ahead)
	s := opened(t, d, 60)
	wantDo(t, "still over it", s, api.OK, drop(1, "a"))
	wantDo(t, "still over it", s, api.ErrFull, put(1, "c", ""))
	wantDo(t, "below it", s, api.OK, drop(1, "b"))
	wantRefused(t, "one above it", d, 60, api.ErrFull, put(1, "c", letters(7)))
	wantDo(t, "at it", s, api.OK, put(1, "c", letters(6)))
	wantUsed(t, "at it", s, 60)
	wantDo(t, "a larger bound", opened(t, d, 62), api.OK, put(1, "d", ""))
	wantUsed(t, "a larger bound", s, 62)
}

// TestFullStore: P7.2, the limit MaxStore: the largest store, to its last byte.
func TestFullStore(t *testing.T) {
	d, s := fresh(t, api.MaxStore)
	var l []kv.Change
	for n, left := 0, api.MaxStore; left > 0; n++ {
		key := fmt.Sprintf("%03d%s", n, letters(n%37))
		size := min(left, 1+len(key)+api.MaxValue)
		if left > size && left < size+60 {
			size -= 60 // so that the last one has room for its key
		}
		l = append(l, put(byte(n), key, letters(size-1-len(key))))
		left -= size
	}
	want := book{}.with(l...)
	for some := range slices.Chunk(l, api.MaxChanges) {
		wantDo(t, "filling it", s, api.OK, some...)
	}
	wantUsed(t, "full", s, api.MaxStore)
	wantRefused(t, "one more", d, api.MaxStore, api.ErrFull, put(255, "k", ""))
	c := l[len(l)-1]
	wantRefused(t, "one byte more", d, api.MaxStore, api.ErrFull, put(c.Space, string(c.Key), string(c.Value)+"x"))
	wantDo(t, "as much", s, api.OK, put(c.Space, string(c.Key), strings.Repeat("y", len(c.Value))))
	wantBook(t, "full", opened(t, d, api.MaxStore), want.with(put(c.Space, string(c.Key), strings.Repeat("y", len(c.Value)))))
}

// TestSeveralWrongs: P7.2, R3, of several changes one is wrong, at any place, or several are: none of them is done.
func TestSeveralWrongs(t *testing.T) {
	d := holding(t, book{{1, "a"}: "1", {2, "b"}: "2"})
	wrongs := []kv.Change{put(1, "", "v"), drop(1, ""), put(1, letters(api.MaxKey), "v"), put(1, "a", letters(api.MaxValue+1)), put(2, "", letters(api.MaxValue+1)), put(3, letters(99), letters(999))}
	rights := []kv.Change{put(1, "a", "3"), drop(2, "b"), put(3, "c", "4"), drop(3, "c"), put(2, "d", "5")}
	for i, c := range wrongs {
		for at := range len(rights) + 1 {
			wantRefused(t, fmt.Sprintf("wrong %d at %d", i, at), d, 100, api.ErrArg, slices.Insert(slices.Clone(rights), at, c)...)
		}
		wantRefused(t, "two wrongs", d, 100, api.ErrArg, c, rights[0], wrongs[(i+1)%len(wrongs)])
		wantRefused(t, "too many, and a wrong one", d, 100, api.ErrArg, append(slices.Repeat(rights, 16), c)...)
	}
	wantRefused(t, "all wrong", d, 100, api.ErrArg, wrongs...)
}

// TestOrderOfRefusals: P7.2, R3, ErrArg ahead of ErrFull, ErrFull ahead of what the disk refuses (wantRefused asks it of a stopped disk too).
func TestOrderOfRefusals(t *testing.T) {
	d := holding(t, book{{1, "a"}: "1"})
	full := put(2, "k", letters(400))
	for _, bound := range []int{0, 3, 100} {
		for _, wrong := range []kv.Change{put(1, "", ""), put(1, letters(40), ""), put(1, "k", letters(401)), drop(1, letters(40))} {
			wantRefused(t, "wrong, ahead of too much", d, bound, api.ErrArg, wrong, full)
			wantRefused(t, "wrong, behind too much", d, bound, api.ErrArg, full, wrong)
		}
		wantRefused(t, "too many and too much", d, bound, api.ErrArg, slices.Repeat([]kv.Change{full}, 81)...)
		wantRefused(t, "too much", d, bound, api.ErrFull, full)
		wantRefused(t, "too much, a Drop behind it", d, bound, api.ErrFull, full, drop(1, "a"))
	}
}

// TestStoppedDo: P7.2, what the disk refuses, and nothing is done where it refuses all.
func TestStoppedDo(t *testing.T) {
	want := book{{1, "a"}: "1", {2, "b"}: "2"}
	for _, l := range [][]kv.Change{{put(1, "a", "2")}, {drop(1, "a")}, {put(3, "c", letters(80)), drop(2, "b")}} {
		d := holding(t, want)
		s := opened(t, d, 100)
		was := image(d)
		d.Stop(0)
		wantDo(t, "stopped", s, api.ErrDisk, l...)
		if image(d) != was || d.Pending() != 0 {
			t.Fatal("something was written")
		}
		wantBook(t, "stopped", s, want)
		d.Crash(disk.Cut{})
		wantBook(t, "stopped, crashed", opened(t, d, 100), want)
	}
}

// TestFullTree: P7.2, what the tree refuses, though the bound would permit it: the tree has no page left for a pair, and the pair that goes makes none free.
func TestFullTree(t *testing.T) {
	d := formatted(t)
	tree, _ := btree.Open(d)
	key := func(n int) []byte { return []byte(fmt.Sprintf("\x01%04d%s", n, letters(api.MaxKey-5))) }
	n := 0
	for tree.Do(btree.Change{Key: key(2 * n), Value: []byte(letters(api.MaxValue))}) == api.OK {
		n++
	}
	if n < 900 {
		t.Fatalf("only %d pairs fit the tree", n)
	}
	between := string(key(501)[1:])
	l := []kv.Change{drop(1, string(key(0)[1:])), put(1, between, letters(api.MaxValue))}
	for _, bound := range []int{0, api.MaxStore} {
		wantUsed(t, "a full tree", opened(t, d, bound), n*440)
		was := image(d)
		wantDo(t, "a full tree", opened(t, d, bound), api.ErrFull, l...)
		if image(d) != was {
			t.Fatal("a refused Do has written")
		}
	}
	s := opened(t, d, 0)
	wantDo(t, "a full tree, less", s, api.OK, drop(1, string(key(500)[1:])), put(1, between, letters(api.MaxValue)))
	wantGet(t, "a full tree, less", s, 1, between, letters(api.MaxValue), true)
}

// TestSafe: P7.2, W2, what was acknowledged outlasts a crash at once.
func TestSafe(t *testing.T) {
	d, s := fresh(t, api.MaxStore)
	want := book{}
	for n := range 60 {
		l := []kv.Change{put(byte(n*37), fmt.Sprint(n*37%101), letters(n*13%401)), drop(byte(n*11), fmt.Sprint(n*11%101)), put(5, "a", fmt.Sprint(n))}
		wantDo(t, "each", s, api.OK, l...)
		want = want.with(l...)
		if d.Pending() != 0 {
			t.Fatalf("%d writes are pending", d.Pending())
		}
		d.Crash(disk.Cut{Keep: []bool{false}, Torn: -1})
		wantBook(t, "crashed", s, want)
		wantBook(t, "crashed, opened", opened(t, d, 0), want)
	}
}
