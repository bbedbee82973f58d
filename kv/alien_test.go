package kv_test

import (
	"fmt"
	"math/rand"
	"testing"

	"deponent/api"
	"deponent/btree"
	"deponent/disk"
	"deponent/kv"
	"deponent/pages"
)

// allCalls tells that all calls of a Store end and don't panic, whatever lies below it.
func allCalls(s *kv.Store) {
	for _, k := range []string{"", "0", "\x00", "\xff", letters(39), letters(40), letters(100)} {
		for _, space := range []byte{0, 1, 7, 8, 254, 255} {
			s.Get(space, []byte(k))
			n := 0
			for range s.Range(space, []byte(k)) {
				n++
			}
			for range s.Range(space, []byte(k)) {
				break
			}
		}
	}
	s.Used()
	s.Do(put(1, "", ""))
	s.Do(put(1, "k", letters(400)), drop(7, "k"), put(255, "k", ""))
	s.Do(drop(8, "k"))
	s.Used()
}

// TestTakenAway: R1, where the pairs were taken away from below a Store, its calls end, and tell of nothing.
func TestTakenAway(t *testing.T) {
	for _, away := range []func(d *disk.Disk){
		func(d *disk.Disk) { pages.Format(d) },
		func(d *disk.Disk) {
			for n := range api.Need {
				d.Write(n, make([]byte, api.Sector))
			}
			d.Flush()
		},
	} {
		d := holding(t, book{{1, "a"}: "1"})
		s := opened(t, d, 100)
		away(d)
		wantBook(t, "taken away", s, book{})
		wantGet(t, "taken away", s, 1, "a", "", false)
		was := image(d)
		wantDo(t, "taken away", s, api.ErrDisk, put(2, "b", "2"))
		allCalls(s)
		if image(d) != was {
			t.Fatal("a Do where there is no store has written")
		}
		wantFormat(t, "taken away", d, api.OK)
		wantBook(t, "formatted", opened(t, d, 100), book{})
	}
}

// TestFormattedBelowAStore: an older Store of a disk that is formatted anew tells what there is now, and its bound holds for that.
func TestFormattedBelowAStore(t *testing.T) {
	d := holding(t, book{{1, "a"}: letters(80)})
	s := opened(t, d, 100)
	wantFormat(t, "anew", d, api.OK)
	wantBook(t, "an older Store", s, book{})
	wantDo(t, "an older Store", s, api.ErrFull, put(2, "b", letters(99)))
	wantDo(t, "an older Store", s, api.OK, put(2, "b", letters(98)))
	wantBook(t, "a newer Store", opened(t, d, 0), book{{2, "b"}: letters(98)})
}

// TestTreesOfOthers: R1, P7.1, a tree that something else has made is a store too, as Open refuses what btree.Open does alone: all calls end.
func TestTreesOfOthers(t *testing.T) {
	d := formatted(t)
	tree, _ := btree.Open(d)
	var l []btree.Change
	for _, key := range []string{"\x00", "\x01", "\x01a", "\x07", "\xfe", "\xff", "\xff\xff", "plain", letters(40)} {
		l = append(l, btree.Change{Key: []byte(key), Value: []byte("v")})
	}
	if why := tree.Do(l...); why != api.OK {
		t.Fatalf("btree: %v", why)
	}
	s := opened(t, d, api.MaxStore)
	allCalls(s)
	wantGet(t, "another's tree", s, 1, "a", "v", true)
	wantGet(t, "another's tree", s, 'p', "lain", "v", true)
	wantGet(t, "another's tree", s, 'x', letters(39), "v", true)
}

// TestPagesThatWereScribbledOn: R1, P7.1, something else has put other bytes into pages of a store: there is none any more, or one; all calls end.
func TestPagesThatWereScribbledOn(t *testing.T) {
	whole, _ := large(t)
	r := rand.New(rand.NewSource(3))
	for round := range 150 {
		d := whole.Copy()
		older := opened(t, d, api.MaxStore)
		store, _ := pages.Open(d)
		for range 1 + r.Intn(3) {
			n := r.Intn(60)
			b, _ := store.Read(n)
			if r.Intn(3) == 0 {
				b, _ = store.Read(r.Intn(60))
			}
			for range r.Intn(4) {
				b[r.Intn(1+r.Intn(api.Page))] = byte(r.Intn(256))
			}
			store.Put(pages.Sheet{N: n, B: b})
		}
		s, why := kv.Open(d, api.MaxStore)
		if _, want := btree.Open(d); why != want || (s == nil) != (why != api.OK) {
			t.Fatalf("round %d: Open: %v, %v, want %v", round, s, why, want)
		}
		if s != nil {
			allCalls(s)
		}
		allCalls(older)
		wantFormat(t, fmt.Sprint("round ", round), d, api.OK)
		wantBook(t, "formatted", opened(t, d, 0), book{})
	}
}
