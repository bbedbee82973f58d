package btree_test

import (
	"bytes"
	"fmt"
	"slices"
	"testing"

	"deponent/api"
	"deponent/btree"
	"deponent/disk"
)

// spoil changes all of b, its spare room too.
func spoil(b []byte) {
	b = b[:cap(b)]
	for i := range b {
		b[i] ^= 0xa5
	}
}

// same tells whether two changes are one, in the same memory.
func same(a, b btree.Change) bool {
	return a.Drop == b.Drop && sameBytes(a.Key, b.Key) && sameBytes(a.Value, b.Value)
}

func sameBytes(a, b []byte) bool {
	return len(a) == len(b) && cap(a) == cap(b) && (cap(a) == 0 || &a[:1][0] == &b[:1][0])
}

// TestHandedInIsLeft: R2, Do neither changes nor keeps the changes, their list, their bytes, nor the room behind these, be it done or refused.
func TestHandedInIsLeft(t *testing.T) {
	for _, stop := range []int{1000, 0, 5, 20, 40} {
		for _, wrong := range []string{"", letters(api.MaxKey + 1)} {
			d, x := fresh(t)
			wantDo(t, "ahead", x, api.OK, put("c", "1"), put("d", letters(400)), put("e", letters(400)))
			ahead := book{"c": "1", "d": letters(400), "e": letters(400)}
			all := []byte("zyxwvutsrqponmlkjihgfedcba" + letters(900))
			l := []btree.Change{
				{Key: all[3:9], Value: all[10:310]},
				{Key: all[1:3:3], Value: all[40:40]},
				{Key: all[21:22], Value: all[5:405], Drop: true},
				{Key: all[23:24], Value: all[5:405:405]},
				{Key: []byte(wrong + "a"), Value: all[:1]},
				put("behind the end", "v"),
			}
			after := ahead.with(l[:5]...)
			was, wasAll := slices.Clone(l), bytes.Clone(all)
			d.Stop(stop)
			why := x.Do(l[:5]...)
			if !bytes.Equal(all, wasAll) || !slices.EqualFunc(l, was, same) {
				t.Fatalf("stopped after %d: what was handed in was changed", stop)
			}
			spoil(all)
			l[0], l[1], l[2], l[3] = btree.Change{}, l[0], put("z", "z"), btree.Change{}
			if (why == api.ErrArg) != (wrong != "") {
				t.Fatalf("stopped after %d: %v", stop, why)
			}
			d.Crash(disk.Cut{})
			got := told(opened(t, d), nil, nil)
			if got != after.String() && (got != ahead.String() || why == api.OK) || got != ahead.String() && why == api.ErrArg {
				t.Fatalf("stopped after %d, %v, spoilt: %s", stop, why, got)
			}
		}
	}
}

// TestKeysHandedInAreLeft: R2, Get and Range neither change nor keep their keys, nor the room behind them.
func TestKeysHandedInAreLeft(t *testing.T) {
	x, want := alphabet(t)
	all := []byte("ceghik")
	if v, ok := x.Get(all[1:2]); string(v) != "101" || !ok {
		t.Fatalf("Get: %q, %v", v, ok)
	}
	seq := x.Range(all[:1], all[2:3])
	if string(all) != "ceghik" {
		t.Fatalf("what was handed in was changed: %s", all)
	}
	spoil(all)
	for range 2 {
		if got := first(seq, 100); got != "c e " {
			t.Fatalf("spoilt ahead of ranging: %s", got)
		}
	}
	all = []byte("ceghik")
	n := 0
	for range x.Range(all[:1], all[2:3]) {
		spoil(all)
		n++
	}
	if n != 2 {
		t.Fatalf("spoilt while ranging: %d pairs", n)
	}
	wantBook(t, "spoilt", x, want)
}

// TestAnsweredIsNew: R2, values and pairs that are answered are memory of their own, their spare room too: changed, nothing else is, while it is ranged over or behind it.
func TestAnsweredIsNew(t *testing.T) {
	for _, make := range []func(*testing.T) (*btree.Tree, book){alphabet, large} {
		x, want := make(t)
		var kept []btree.Pair
		for p := range x.Range(nil, nil) {
			was := fmt.Sprintf("%q", kept)
			spoil(p.Key[len(p.Key):])
			spoil(p.Value[len(p.Value):])
			if v, ok := want[string(p.Key)]; !ok || v != string(p.Value) {
				t.Fatalf("%q: %q", p.Key, p.Value)
			}
			key := string(p.Key)
			spoil(p.Value)
			if string(p.Key) != key {
				t.Fatal("a key and its value share memory")
			}
			spoil(p.Key)
			spoil(p.Value)
			if string(p.Value) != want[key] || fmt.Sprintf("%q", kept) != was {
				t.Fatal("answers share memory")
			}
			kept = append(kept, p)
		}
		wantBook(t, "pairs that are spoilt", x, want)
		for k, v := range want {
			one, _ := x.Get([]byte(k))
			two, _ := x.Get([]byte(k))
			spoil(one)
			if string(two) != v {
				t.Fatal("two answers share memory")
			}
		}
		wantBook(t, "values that are spoilt", x, want)
		wantDo(t, "spoilt", x, api.OK, put("zz", "1"))
		wantBook(t, "spoilt", x, want.with(put("zz", "1")))
	}
}

// TestZeroBesideFalse: R3, beside a false and a refusal there is nothing.
func TestZeroBesideFalse(t *testing.T) {
	x, _ := alphabet(t)
	for _, k := range []string{"", "b", "A", "z", letters(40), letters(41)} {
		if v, ok := x.Get([]byte(k)); ok || v != nil {
			t.Fatalf("Get(%q): %v, %v", k, v, ok)
		}
	}
	if x, why := btree.Open(nil); x != nil || why == api.OK {
		t.Fatalf("Open: %v, %v", x, why)
	}
}

// TestSameAnswers: R4, the same calls on two disks answer the same, and leave the same bytes.
func TestSameAnswers(t *testing.T) {
	var images [2]string
	for i := range images {
		d, x := fresh(t)
		for n := range 60 {
			wantDo(t, "some", x, api.OK, put(fmt.Sprint(n*31%60), letters(n*6)), drop(fmt.Sprint(n*17%60)), put("a", fmt.Sprint(n)))
		}
		images[i] = image(d) + told(x, nil, nil)
	}
	if images[0] != images[1] {
		t.Fatal("the same calls have left other bytes")
	}
}
