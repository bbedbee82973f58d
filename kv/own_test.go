package kv_test

import (
	"bytes"
	"fmt"
	"slices"
	"testing"

	"deponent/api"
	"deponent/btree"
	"deponent/disk"
	"deponent/kv"
)

// spoil changes all of b, its spare room too.
func spoil(b []byte) {
	b = b[:cap(b)]
	for i := range b {
		b[i] ^= 0xa5
	}
}

// same tells whether two changes are one, in the same memory.
func same(a, b kv.Change) bool {
	return a.Space == b.Space && a.Drop == b.Drop && sameBytes(a.Key, b.Key) && sameBytes(a.Value, b.Value)
}

func sameBytes(a, b []byte) bool {
	return len(a) == len(b) && cap(a) == cap(b) && (cap(a) == 0 || &a[:1][0] == &b[:1][0])
}

// TestHandedInIsLeft: R2, Do neither changes nor keeps the changes, their list, their bytes, nor the room behind these, be it done, stopped or refused.
func TestHandedInIsLeft(t *testing.T) {
	ahead := book{{1, "c"}: "1", {1, "d"}: letters(400), {2, "e"}: letters(400)}
	for _, bound := range []int{5000, 100} {
		for _, stop := range []int{1000, 0, 5, 20, 40} {
			for _, wrong := range []string{"", letters(api.MaxKey)} {
				d := holding(t, ahead)
				s := opened(t, d, bound)
				all := []byte("zyxwvutsrqponmlkjihgfedcba" + letters(900))
				l := []kv.Change{
					{Space: 1, Key: all[3:9], Value: all[10:310]},
					{Space: 2, Key: all[1:3:3], Value: all[40:40]},
					{Space: 1, Key: all[21:22], Value: all[5:405], Drop: true},
					{Space: 255, Key: all[23:24], Value: all[5:405:405]},
					{Space: 0, Key: []byte(wrong + "a"), Value: all[:1]},
					put(3, "behind the end", "v"),
				}
				after := ahead.with(l[:5]...)
				was, wasAll := slices.Clone(l), bytes.Clone(all)
				d.Stop(stop)
				why := s.Do(l[:5]...)
				if !bytes.Equal(all, wasAll) || !slices.EqualFunc(l, was, same) {
					t.Fatalf("stopped after %d: what was handed in was changed", stop)
				}
				spoil(all)
				l[0], l[1], l[2], l[3] = kv.Change{}, l[0], put(9, "z", "z"), kv.Change{}
				if (why == api.ErrArg) != (wrong != "") || (why == api.ErrFull) != (wrong == "" && bound == 100) {
					t.Fatalf("stopped after %d: %v", stop, why)
				}
				d.Crash(disk.Cut{})
				got := toldAll(opened(t, d, 0))
				isAhead, isAfter := got == ahead.String(), got == after.String()
				if why == api.OK && !isAfter || why == api.ErrDisk && !isAhead && !isAfter || why != api.OK && why != api.ErrDisk && !isAhead {
					t.Fatalf("stopped after %d, %v, spoilt: %s", stop, why, got)
				}
			}
		}
	}
}

// TestKeysHandedInAreLeft: R2, Get and Range neither change nor keep their keys, nor the room behind them.
func TestKeysHandedInAreLeft(t *testing.T) {
	d, want := alphabet(t)
	s := opened(t, d, 0)
	all := []byte("eghuik")
	if v, ok := s.Get(1, all[:1]); string(v) != want[name{1, "e"}] || !ok {
		t.Fatalf("Get: %q, %v", v, ok)
	}
	seq := s.Range(1, all[3:4])
	if string(all) != "eghuik" {
		t.Fatalf("what was handed in was changed: %s", all)
	}
	spoil(all)
	for range 2 {
		if got := firstKeys(seq, 100); got != "u w y " {
			t.Fatalf("spoilt ahead of ranging: %s", got)
		}
	}
	all = []byte("eghuik")
	n := 0
	for range s.Range(1, all[3:4]) {
		spoil(all)
		n++
	}
	if n != 3 {
		t.Fatalf("spoilt while ranging: %d pairs", n)
	}
	wantBook(t, "spoilt", s, want)
}

// TestAnsweredIsNew: R2, values and pairs that are answered are memory of their own, their spare room too: changed, nothing else is, while it is ranged over or behind it.
func TestAnsweredIsNew(t *testing.T) {
	for _, lay := range []func(*testing.T) (*disk.Disk, book){alphabet, large} {
		d, want := lay(t)
		s := opened(t, d, api.MaxStore)
		for _, space := range []byte{0, 1, 7, 8, 255} {
			var kept []btree.Pair
			for p := range s.Range(space, nil) {
				was := fmt.Sprintf("%q", kept)
				key, value := string(p.Key), string(p.Value)
				spoil(p.Key[len(p.Key):])
				spoil(p.Value[len(p.Value):])
				if v, ok := want[name{space, key}]; !ok || v != value || string(p.Key) != key || string(p.Value) != value {
					t.Fatalf("%q: %q", p.Key, p.Value)
				}
				spoil(p.Value)
				if string(p.Key) != key {
					t.Fatal("a key and its value share memory")
				}
				spoil(p.Value)
				spoil(p.Key)
				if string(p.Value) != value || fmt.Sprintf("%q", kept) != was {
					t.Fatal("answers share memory")
				}
				kept = append(kept, p)
			}
		}
		wantBook(t, "pairs that are spoilt", s, want)
		for n, v := range want {
			one, _ := s.Get(n.space, []byte(n.key))
			two, _ := s.Get(n.space, []byte(n.key))
			spoil(one)
			if string(two) != v {
				t.Fatal("two answers share memory")
			}
		}
		wantBook(t, "values that are spoilt", s, want)
		wantDo(t, "spoilt", s, api.OK, put(9, "zz", "1"))
		wantBook(t, "spoilt", s, want.with(put(9, "zz", "1")))
	}
}

// TestZeroBesideFalse: R3, beside a false and a refusal there is nothing.
func TestZeroBesideFalse(t *testing.T) {
	d, _ := alphabet(t)
	s := opened(t, d, 0)
	for _, space := range []byte{0, 3, 255} {
		for _, k := range []string{"", "b", "A", "z", letters(39), letters(40), letters(41), letters(5000)} {
			if v, ok := s.Get(space, []byte(k)); ok || v != nil {
				t.Fatalf("Get(%d, %q): %v, %v", space, k, v, ok)
			}
		}
	}
	for _, bound := range []int{-1, 5, api.MaxStore + 1} {
		if s, why := kv.Open(nil, bound); s != nil || why == api.OK {
			t.Fatalf("Open: %v, %v", s, why)
		}
	}
}

// TestSameAnswers: R4, the same calls on two disks answer the same, and leave the same bytes.
func TestSameAnswers(t *testing.T) {
	var images [2]string
	for i := range images {
		d, s := fresh(t, 5000)
		for n := range 60 {
			why := s.Do(put(byte(n*31), fmt.Sprint(n*31%60), letters(n*6)), drop(byte(n*17), fmt.Sprint(n*17%60)), put(1, "a", fmt.Sprint(n)), put(2, "a", fmt.Sprint(n)))
			images[i] += fmt.Sprint(why, s.Used(), " ")
		}
		images[i] += image(d) + toldAll(s)
	}
	if images[0] != images[1] {
		t.Fatal("the same calls have left other bytes")
	}
}
