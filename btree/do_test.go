package btree_test

import (
	"fmt"
	"slices"
	"strings"
	"testing"

	"deponent/api"
	"deponent/btree"
	"deponent/disk"
)

// letters answers so many bytes.
func letters(n int) string { return strings.Repeat("x", n) }

// wantRefused tells that a Do is refused with that number and changes nothing, on a disk that is stopped and has a write pending too.
func wantRefused(t *testing.T, what string, d *disk.Disk, x *btree.Tree, want api.Errno, l ...btree.Change) {
	t.Helper()
	was, pairs := image(d), told(x, nil, nil)
	wantDo(t, what, x, want, l...)
	e := d.Copy()
	y := opened(t, e)
	b, _ := e.Read(api.Need - 1)
	e.Write(api.Need-1, b)
	e.Stop(0)
	wantDo(t, what+", stopped", y, want, l...)
	if image(d) != was || d.Pending() != 0 || image(e) != was || e.Pending() != 1 {
		t.Fatalf("%s: a refused Do has written", what)
	}
	if told(x, nil, nil) != pairs || told(y, nil, nil) != pairs || told(opened(t, d), nil, nil) != pairs {
		t.Fatalf("%s: a refused Do has changed the pairs", what)
	}
}

// TestSizesOfKeys: P6.2, the limit MaxKey.
func TestSizesOfKeys(t *testing.T) {
	d, x := fresh(t)
	want := book{}
	for size := 1; size <= api.MaxKey; size++ {
		c := put(letters(size), fmt.Sprint(size))
		wantDo(t, "a key", x, api.OK, c)
		want = want.with(c)
	}
	wantBook(t, "keys of all sizes", x, want)
	for _, size := range []int{0, api.MaxKey + 1, api.MaxKey + 2, 2 * api.MaxKey, 255, 256, 257, 1 << 16, 1<<16 + 1} {
		what := fmt.Sprintf("a key of %d bytes", size)
		wantRefused(t, what, d, x, api.ErrArg, put(letters(size), "v"))
		wantRefused(t, what+", dropped", d, x, api.ErrArg, drop(letters(size)))
		wantGet(t, what, x, letters(size), "", false)
	}
	for size := 1; size <= api.MaxKey; size += 3 {
		wantDo(t, "a key", x, api.OK, drop(letters(size)))
		want = want.with(drop(letters(size)))
		wantBook(t, "keys of all sizes", x, want)
	}
	wantBook(t, "keys of all sizes", opened(t, d), want)
}

// TestNoKey: P6.2, R4, a key that is nil or empty, whatever room is behind it.
func TestNoKey(t *testing.T) {
	d, x := fresh(t)
	wantDo(t, "ahead", x, api.OK, put("a", "1"))
	for _, key := range [][]byte{nil, {}, []byte("abc")[:0]} {
		wantRefused(t, "no key", d, x, api.ErrArg, btree.Change{Key: key, Value: []byte("v")})
		wantRefused(t, "no key, dropped", d, x, api.ErrArg, btree.Change{Key: key, Drop: true})
	}
}

// TestSizesOfValues: P6.2, the limit MaxValue, of a Drop too.
func TestSizesOfValues(t *testing.T) {
	d, x := fresh(t)
	want := book{}
	for _, size := range []int{0, 1, 2, 127, 128, 255, 256, api.MaxValue - 1, api.MaxValue} {
		for _, key := range []string{fmt.Sprint(size), "again", strings.Repeat(fmt.Sprint(size%10), api.MaxKey)} {
			c := put(key, letters(size))
			wantDo(t, "a value", x, api.OK, c)
			want = want.with(c)
		}
		wantBook(t, fmt.Sprintf("a value of %d bytes", size), x, want)
	}
	for _, size := range []int{api.MaxValue + 1, api.MaxValue + 2, 2 * api.MaxValue, api.Page, 1 << 16, 1<<16 + 1} {
		what := fmt.Sprintf("a value of %d bytes", size)
		wantRefused(t, what, d, x, api.ErrArg, put("again", letters(size)))
		wantRefused(t, what+", dropped", d, x, api.ErrArg, btree.Change{Key: []byte("again"), Value: []byte(letters(size)), Drop: true})
	}
	c := btree.Change{Key: []byte("again"), Value: []byte(letters(api.MaxValue)), Drop: true}
	wantDo(t, "a Drop with a value", x, api.OK, c)
	wantBook(t, "a Drop with a value", opened(t, d), want.with(c))
}

// TestNoValue: P6.2, R4, a value that is nil or empty is one, and takes the place of another one.
func TestNoValue(t *testing.T) {
	for _, value := range [][]byte{nil, {}, []byte("abc")[:0]} {
		d, x := fresh(t)
		wantDo(t, "ahead", x, api.OK, put("a", "1"), put("b", "2"))
		wantDo(t, "no value", x, api.OK, btree.Change{Key: []byte("a"), Value: value})
		wantBook(t, "no value", x, book{"a": "", "b": "2"})
		wantBook(t, "no value", opened(t, d), book{"a": "", "b": "2"})
	}
}

// TestAnyBytes: P6.2, P6.3, keys and values of any bytes, each key with those that it begins.
func TestAnyBytes(t *testing.T) {
	d, x := fresh(t)
	want := book{}
	for c := range 256 {
		one := string([]byte{byte(c)})
		l := []btree.Change{put(one, one), put(one+one, ""), put(one+"\x00", one+one), put(one+"\xff", strings.Repeat(one, 30))}
		wantDo(t, one, x, api.OK, l...)
		want = want.with(l...)
	}
	wantBook(t, "any bytes", x, want)
	wantBook(t, "any bytes", opened(t, d), want)
}

// TestHowManyChanges: P6.2, the limit MaxChanges, whatever the changes are.
func TestHowManyChanges(t *testing.T) {
	d, x := fresh(t)
	var l []btree.Change
	for n := range 3 * api.MaxChanges {
		l = append(l, put(fmt.Sprintf("%03d", n*7%240), letters(n%200)))
	}
	same, drops := slices.Repeat([]btree.Change{put("a", "1")}, 200), slices.Repeat([]btree.Change{drop("b")}, 200)
	for _, count := range []int{api.MaxChanges + 1, api.MaxChanges + 2, 2 * api.MaxChanges, 200} {
		wantRefused(t, "too many", d, x, api.ErrArg, l[:count]...)
		wantRefused(t, "too many of one key", d, x, api.ErrArg, same[:count]...)
		wantRefused(t, "too many Drops", d, x, api.ErrArg, drops[:count]...)
	}
	want := book{}
	for _, some := range [][]btree.Change{l[:api.MaxChanges], l[80:159], l[159:239], same[:api.MaxChanges], drops[:api.MaxChanges]} {
		wantDo(t, "many", x, api.OK, some...)
		want = want.with(some...)
		wantBook(t, "many", x, want)
	}
	wantBook(t, "many", opened(t, d), want)
}

// TestDoOfNothing: P6.2, R4, no changes, nil or empty, are OK, and write nothing.
func TestDoOfNothing(t *testing.T) {
	d, x := fresh(t)
	wantDo(t, "ahead", x, api.OK, put("a", "1"))
	was := image(d)
	for _, l := range [][]btree.Change{nil, {}, make([]btree.Change, 0, 3), []btree.Change{put("b", "2")}[:0]} {
		wantDo(t, "nothing", x, api.OK, l...)
	}
	if image(d) != was || d.Pending() != 0 {
		t.Fatal("Do of nothing has written")
	}
}

// TestOneKeyAgain: P6.2, changes of one key are done in order, with others between them or not, of a key that was there or not.
func TestOneKeyAgain(t *testing.T) {
	a, b := put("k", "1"), put("k", "22")
	for _, l := range [][]btree.Change{
		{a}, {drop("k")}, {a, b}, {b, a}, {a, drop("k")}, {drop("k"), a}, {a, drop("k"), b}, {drop("k"), a, drop("k")},
		{a, drop("k"), a, drop("k"), b, a}, {drop("k"), drop("k")}, {a, put("j", "5"), drop("k"), put("l", "6"), b, drop("j")},
		{put("kk", "7"), a, put("k\x00", "8"), drop("kk"), b}, append(slices.Repeat([]btree.Change{a, b, drop("k")}, 26), put("k", letters(400))),
	} {
		for _, ahead := range []book{{}, {"k": "0"}, {"j": "0", "k": "", "l": "0"}, {"kk": letters(400)}} {
			d, x := fresh(t)
			for k, v := range ahead {
				wantDo(t, "ahead", x, api.OK, put(k, v))
			}
			wantDo(t, "one key", x, api.OK, l...)
			what := fmt.Sprintf("%v, then %v", ahead, book{}.with(l...))
			wantBook(t, what, x, ahead.with(l...))
			d.Crash(disk.Cut{})
			wantBook(t, what, opened(t, d), ahead.with(l...))
		}
	}
}

// TestDropOfNone: P6.2, Drops of keys that aren't there, ahead of, between and behind those that are.
func TestDropOfNone(t *testing.T) {
	d, x := fresh(t)
	want := book{}
	for n := range 40 {
		c := put(fmt.Sprintf("k%02d", n), letters(n*5))
		wantDo(t, "ahead", x, api.OK, c)
		want = want.with(c)
	}
	for _, k := range []string{"\x00", "a", "k", "k0", "k001", "k15x", "k39\x00", "k4", "z", letters(api.MaxKey)} {
		wantDo(t, "a key that isn't there", x, api.OK, drop(k))
		wantBook(t, "a key that isn't there: "+k, x, want)
		wantDo(t, "a key that isn't there, and one that is", x, api.OK, drop(k), drop("k15"), put("k15", "v"))
		want = want.with(put("k15", "v"))
	}
	wantBook(t, "keys that aren't there", opened(t, d), want)
}

// TestSeveralWrongs: P6.2, R3, of several changes one is wrong, at any place, or several are: none of them is done.
func TestSeveralWrongs(t *testing.T) {
	d, x := fresh(t)
	wantDo(t, "ahead", x, api.OK, put("a", "1"), put("b", "2"))
	wrongs := []btree.Change{put("", "v"), drop(""), put(letters(api.MaxKey+1), "v"), put("a", letters(api.MaxValue+1)), put("", letters(api.MaxValue+1)), put(letters(99), letters(999))}
	rights := []btree.Change{put("a", "3"), drop("b"), put("c", "4"), drop("c"), put("d", "5")}
	for i, c := range wrongs {
		for at := range len(rights) + 1 {
			wantRefused(t, fmt.Sprintf("wrong %d at %d", i, at), d, x, api.ErrArg, slices.Insert(slices.Clone(rights), at, c)...)
		}
		wantRefused(t, "two wrongs", d, x, api.ErrArg, c, rights[0], wrongs[(i+1)%len(wrongs)])
		many := append(slices.Repeat(rights, 16), c)
		wantRefused(t, "too many, and a wrong one", d, x, api.ErrArg, many...)
	}
	wantRefused(t, "all wrong", d, x, api.ErrArg, wrongs...)
}

// TestStoppedDo: P6.2, what the disk refuses, and nothing is done where it refuses all.
func TestStoppedDo(t *testing.T) {
	for _, l := range [][]btree.Change{{put("a", "1")}, {put("a", "2")}, {drop("a")}, {drop("z")}, {put("c", letters(400)), drop("b")}} {
		d, x := fresh(t)
		want := book{"a": "1", "b": "2"}
		wantDo(t, "ahead", x, api.OK, put("a", "1"), put("b", "2"))
		was := image(d)
		d.Stop(0)
		wantDo(t, "stopped", x, api.ErrDisk, l...)
		if image(d) != was || d.Pending() != 0 {
			t.Fatal("something was written")
		}
		wantBook(t, "stopped", x, want)
		d.Crash(disk.Cut{})
		wantBook(t, "stopped, crashed", opened(t, d), want)
	}
}

// TestSafe: P6.2, P6.4, what was acknowledged outlasts a crash at once.
func TestSafe(t *testing.T) {
	d, x := fresh(t)
	want := book{}
	for n := range 100 {
		l := []btree.Change{put(fmt.Sprintf("%d", n*37%101), letters(n*13%401)), drop(fmt.Sprint(n * 11 % 101))}
		wantDo(t, "each", x, api.OK, l...)
		want = want.with(l...)
		if d.Pending() != 0 {
			t.Fatalf("%d writes are pending", d.Pending())
		}
		d.Crash(disk.Cut{Keep: []bool{false}, Torn: -1})
		wantBook(t, "crashed", x, want)
		wantBook(t, "crashed, opened", opened(t, d), want)
	}
}
