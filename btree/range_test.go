package btree_test

import (
	"fmt"
	"iter"
	"math/rand"
	"slices"
	"testing"

	"deponent/api"
	"deponent/btree"
)

// alphabet answers a tree of the keys a, c, e, .. y, each with its place as its value.
func alphabet(t *testing.T) (*btree.Tree, book) {
	t.Helper()
	_, x := fresh(t)
	want := book{}
	for c := byte('a'); c <= 'y'; c += 2 {
		change := put(string([]byte{c}), fmt.Sprint(c))
		wantDo(t, "the alphabet", x, api.OK, change)
		want = want.with(change)
	}
	return x, want
}

// large answers a tree of three levels, and what it has.
func large(t *testing.T) (*btree.Tree, book) {
	t.Helper()
	_, x := fresh(t)
	want := book{}
	for n := range 90 {
		c := put(long(n*29%90), letters(300+n))
		wantDo(t, "large", x, api.OK, c)
		want = want.with(c)
	}
	wantBook(t, "large", x, want)
	return x, want
}

// wantRange tells that a range hands out what the book has there, when it is ranged over for the first time and the second one.
func wantRange(t *testing.T, x *btree.Tree, want book, from, to string) {
	t.Helper()
	seq := x.Range([]byte(from), []byte(to))
	for range 2 {
		out := ""
		for p := range seq {
			out += pairText(string(p.Key), string(p.Value))
		}
		if out != want.between(from, to) {
			t.Fatalf("Range(%q, %q): %.1000s, want %.1000s", from, to, out, want.between(from, to))
		}
	}
}

// TestBoundsOfRanges: P6.3, from and to at, between, ahead of and behind keys, from above to, and one or both of them empty.
func TestBoundsOfRanges(t *testing.T) {
	x, want := alphabet(t)
	bounds := []string{"", "\x00", "A", "a", "a\x00", "b", "c", "cc", "d", "m", "n", "x", "y", "y\x00", "z", "\xff", letters(api.MaxKey), letters(100)}
	for _, from := range bounds {
		for _, to := range bounds {
			wantRange(t, x, want, from, to)
		}
	}
}

// TestRangesOfManyPages: P6.3, the same of a tree of several levels.
func TestRangesOfManyPages(t *testing.T) {
	x, want := large(t)
	keys := []string{"", "\x00", "0", "1", "2", "3", "\xff"}
	for k := range want {
		if len(keys) < 20 {
			keys = append(keys, k, k+"\x00", k[:3])
		}
	}
	slices.Sort(keys)
	for _, from := range keys {
		for _, to := range keys {
			wantRange(t, x, want, from, to)
		}
	}
}

// TestNoBounds: P6.3, R4, nil and empty bounds are the same.
func TestNoBounds(t *testing.T) {
	x, want := alphabet(t)
	none := [][]byte{nil, {}, []byte("m")[:0]}
	for _, from := range none {
		for _, to := range none {
			if got := told(x, from, to); got != want.String() {
				t.Fatalf("no bounds: %s", got)
			}
		}
		if got := told(x, from, []byte("m")); got != want.between("", "m") {
			t.Fatalf("no from: %s", got)
		}
		if got := told(x, []byte("m"), from); got != want.between("m", "") {
			t.Fatalf("no to: %s", got)
		}
	}
}

// TestToIsAKey: P6.3, a to that is a key is not handed out, a from that is one is.
func TestToIsAKey(t *testing.T) {
	x, _ := alphabet(t)
	for _, c := range [][3]string{{"c", "g", `"c"="99" "e"="101" `}, {"c", "c", ""}, {"c", "c\x00", `"c"="99" `}, {"b", "c", ""}, {"y", "", `"y"="121" `}, {"g", "c", ""}} {
		if got := told(x, []byte(c[0]), []byte(c[1])); got != c[2] {
			t.Fatalf("Range(%q, %q): %s, want %s", c[0], c[1], got, c[2])
		}
	}
}

// first answers the first so many keys of a range, which is left behind them.
func first(seq iter.Seq[btree.Pair], count int) string {
	out := ""
	if count == 0 {
		return out
	}
	for p := range seq {
		out += string(p.Key) + " "
		if count--; count == 0 {
			break
		}
	}
	return out
}

// TestLeftEarly: P6.3, a range may be left at any pair, and begins anew when it is ranged over again.
func TestLeftEarly(t *testing.T) {
	for _, make := range []func(*testing.T) (*btree.Tree, book){alphabet, large} {
		x, want := make(t)
		seq := x.Range([]byte("1"), nil)
		all := ""
		for p := range seq {
			all += string(p.Key) + " "
		}
		length := 0
		for count := range len(want) {
			got := first(seq, count)
			if all[:len(got)] != got || count > 0 && len(got) <= length && len(got) < len(all) {
				t.Fatalf("left at %d: %s", count, got)
			}
			length = len(got)
		}
		if first(seq, len(want)+1) != all {
			t.Fatal("not left")
		}
		wantBook(t, "left early", x, want)
	}
}

// TestTwoRangesAtOnce: P6.3, ranges within ranges don't disturb each other.
func TestTwoRangesAtOnce(t *testing.T) {
	x, want := alphabet(t)
	seq := x.Range(nil, nil)
	n := 0
	for p := range seq {
		for q := range seq {
			if string(q.Key) == string(p.Key) {
				n++
				break
			}
		}
		wantGet(t, "within a range", x, string(p.Key), want[string(p.Key)], true)
		if got := told(x, p.Key, nil); got != want.between(string(p.Key), "") {
			t.Fatalf("within a range: %s", got)
		}
	}
	if n != len(want) {
		t.Fatalf("%d keys, want %d", n, len(want))
	}
}

// TestRangesChangeNothing: P6.3, neither Range, Get, Len nor Check writes, and all work on a disk that is stopped.
func TestRangesChangeNothing(t *testing.T) {
	d, x := fresh(t)
	want := book{}
	for n := range 60 {
		c := put(fmt.Sprint(n), letters(n*6))
		wantDo(t, "ahead", x, api.OK, c)
		want = want.with(c)
	}
	was := image(d)
	d.Stop(0)
	wantBook(t, "stopped", x, want)
	wantRange(t, x, want, "2", "5")
	wantGet(t, "stopped", x, "none", "", false)
	if image(d) != was || d.Pending() != 0 {
		t.Fatal("something was written")
	}
}

// TestRangeOfOtherTimes: a range tells what there is when it is ranged over, again too.
func TestRangeOfOtherTimes(t *testing.T) {
	_, x := fresh(t)
	seq := x.Range([]byte("b"), []byte("y"))
	for _, l := range [][]btree.Change{{put("a", "1"), put("b", "2")}, {put("c", "3"), put("y", "9")}, {drop("b")}, {put("d", letters(400)), put("e", letters(400)), put("f", letters(400))}} {
		wantDo(t, "between", x, api.OK, l...)
		if got, want := first(seq, 100), first(x.Range([]byte("b"), []byte("y")), 100); got != want {
			t.Fatalf("ranged over again: %s, want %s", got, want)
		}
	}
}

// TestChangedMeanwhile: R1, a range over a tree that is changed meanwhile ends, and its keys go up.
func TestChangedMeanwhile(t *testing.T) {
	r := rand.New(rand.NewSource(1))
	for round := range 4 {
		x, want := large(t)
		last, n := "", 0
		for p := range x.Range(nil, nil) {
			if string(p.Key) <= last {
				t.Fatalf("%q behind %q", p.Key, last)
			}
			last = string(p.Key)
			n++
			l := []btree.Change{drop(last)}
			for range r.Intn(round + 1) {
				l = append(l, put(long(r.Intn(90))[:3+r.Intn(30)], letters(r.Intn(401))))
			}
			wantDo(t, "meanwhile", x, api.OK, l...)
			if x.Check() != api.OK {
				t.Fatal("the tree is not whole any more")
			}
		}
		if n != len(want) && round == 0 {
			t.Fatalf("%d keys were handed out, want %d", n, len(want))
		}
	}
}

// TestGetOfOthers: P6.3, keys that aren't there, ahead of, between and behind those that are.
func TestGetOfOthers(t *testing.T) {
	for _, make := range []func(*testing.T) (*btree.Tree, book){alphabet, large} {
		x, want := make(t)
		for k := range want {
			for _, other := range []string{"", k + "\x00", k + k, k[1:], k[:len(k)-1], "\x00" + k, "\xff" + k, letters(100)} {
				v, ok := want[other]
				wantGet(t, "others", x, other, v, ok)
			}
		}
	}
}
