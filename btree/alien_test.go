package btree_test

import (
	"fmt"
	"math/rand"
	"slices"
	"testing"

	"deponent/api"
	"deponent/btree"
	"deponent/disk"
	"deponent/pages"
)

// allCalls tells that all calls of a Tree end and don't panic, whatever lies on its pages.
func allCalls(x *btree.Tree) {
	for _, k := range []string{"", "0", "005", long(7), long(49), "z", letters(100)} {
		x.Get([]byte(k))
		n := 0
		for range x.Range([]byte(k), nil) {
			n++
		}
		for range x.Range(nil, []byte(k)) {
			n++
			break
		}
	}
	x.Len()
	x.Check()
}

// manyChanges answers changes all over the tree.
func manyChanges() []btree.Change {
	var l []btree.Change
	for n := 0; n < 50; n += 3 {
		l = append(l, put(long(n), "1"), drop(long(n+1)), put(long(n)[:20], letters(400)))
	}
	return l
}

// wantMended tells that Format works on d, whatever is there.
func wantMended(t *testing.T, what string, d *disk.Disk) {
	t.Helper()
	wantFormat(t, what, d, api.OK)
	x := opened(t, d)
	wantBook(t, what+", formatted", x, book{})
	wantDo(t, what+", formatted", x, api.OK, put("a", "1"))
	wantBook(t, what+", formatted", opened(t, d), book{"a": "1"})
}

// wantEnds tells that each call ends on a disk to which something else has written, and that what Open takes for a tree is one: a Do on it is done. An older Tree's calls end too.
func wantEnds(t *testing.T, what string, d *disk.Disk, old *btree.Tree) {
	t.Helper()
	y, why := btree.Open(d)
	switch {
	case why == api.OK:
		now := book{}
		for p := range y.Range(nil, nil) {
			now.do(put(string(p.Key), string(p.Value)))
		}
		wantBook(t, what, y, now)
		wantDo(t, what, y, api.OK, manyChanges()...)
		wantBook(t, what, opened(t, d), now.with(manyChanges()...))
	case why != api.ErrDisk || y != nil:
		t.Fatalf("%s: Open: %v, %v", what, y, why)
	default:
		allCalls(old)
		old.Do(manyChanges()...)
		allCalls(old)
	}
}

// someTree answers a disk with a tree of three levels.
func someTree(t *testing.T) (*disk.Disk, book) {
	t.Helper()
	d := formatted(t)
	want := book{}
	for n := range 50 {
		want.do(put(long(n), letters(400)))
	}
	bring(t, d, want)
	return d, want
}

// TestPagesThatWereScribbledOn: R1, P6.1, something else has put other bytes into pages of a tree: drawn ones, those of other pages, or the same with a few others.
func TestPagesThatWereScribbledOn(t *testing.T) {
	for seed := range 4 {
		t.Run(fmt.Sprint(seed), func(t *testing.T) {
			t.Parallel()
			r := rand.New(rand.NewSource(int64(seed)))
			d, want := someTree(t)
			trees, nones := 0, 0
			for round := range 200 {
				x := bring(t, d, want)
				s, _ := pages.Open(d)
				for range 1 + r.Intn(3) {
					n := r.Intn(40)
					from, _ := s.Read(r.Intn(40))
					b, _ := s.Read(n)
					switch r.Intn(5) {
					case 0:
						r.Read(b)
					case 1:
						b = from
					case 2:
						b = make([]byte, api.Page)
					default:
						for range 1 + r.Intn(3) {
							b[r.Intn(1+r.Intn(api.Page))] = byte(r.Intn(1 + r.Intn(256)))
						}
					}
					s.Put(pages.Sheet{N: n, B: b})
				}
				if _, why := btree.Open(d); why == api.OK {
					trees++
				} else {
					nones++
				}
				wantEnds(t, fmt.Sprintf("round %d", round), d, x)
				if _, why := btree.Open(d); why != api.OK {
					wantMended(t, "scribbled on", d)
				}
			}
			if trees == 0 || nones == 0 {
				t.Fatalf("%d trees, %d times none", trees, nones)
			}
		})
	}
}

// TestWhatSomethingElseWrote: R1, P6.1, a disk all of drawn bytes, or with drawn sectors, has no tree, or one, and can be formatted.
func TestWhatSomethingElseWrote(t *testing.T) {
	r := rand.New(rand.NewSource(1))
	d, want := someTree(t)
	for round := range 60 {
		x := bring(t, d, want)
		for range 1 + r.Intn(200) {
			b := make([]byte, api.Sector)
			r.Read(b)
			d.Write(r.Intn(1+r.Intn(api.Need)), b)
		}
		wantEnds(t, fmt.Sprintf("round %d", round), d, x)
		wantMended(t, "drawn sectors", d)
	}
	for n := range api.Need {
		b := make([]byte, api.Sector)
		r.Read(b)
		d.Write(n, b)
	}
	d.Flush()
	wantNone(t, "drawn bytes", d, api.ErrDisk)
	wantMended(t, "drawn bytes", d)
}

// TestTakenAway: R1, where the tree was taken away from below a Tree, its calls end, and tell of nothing.
func TestTakenAway(t *testing.T) {
	for _, away := range []func(d *disk.Disk){
		func(d *disk.Disk) { pages.Format(d) },
		func(d *disk.Disk) {
			for n := range api.Need {
				d.Write(n, make([]byte, api.Sector))
			}
			d.Flush()
		},
	} {
		d, x := fresh(t)
		wantDo(t, "ahead", x, api.OK, put("a", "1"))
		away(d)
		wantGet(t, "taken away", x, "a", "", false)
		if got := told(x, nil, nil); got != "" || x.Len() != 0 || x.Check() != api.ErrDisk {
			t.Fatalf("taken away: %s, Len %d, Check %v", got, x.Len(), x.Check())
		}
		was := image(d)
		wantDo(t, "taken away", x, api.ErrDisk, put("b", "2"))
		if image(d) != was {
			t.Fatal("a Do where there is no tree has written")
		}
		wantMended(t, "taken away", d)
	}
}

// TestFormattedBelowATree: an older Tree of a disk that is formatted anew tells what there is now.
func TestFormattedBelowATree(t *testing.T) {
	d, x := fresh(t)
	wantDo(t, "ahead", x, api.OK, manyChanges()...)
	wantFormat(t, "anew", d, api.OK)
	wantBook(t, "an older Tree", x, book{})
	l := slices.Repeat([]btree.Change{put("a", "1")}, 2)
	wantDo(t, "an older Tree", x, api.OK, l...)
	wantBook(t, "a newer Tree", opened(t, d), book{"a": "1"})
}
