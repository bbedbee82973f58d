package btree_test

import (
	"bytes"
	"fmt"
	"maps"
	"math/rand"
	"slices"
	"strings"
	"testing"

	"deponent/api"
	"deponent/btree"
	"deponent/disk"
)

// doAll does changes, so many in each call.
func doAll(t *testing.T, what string, x *btree.Tree, many int, l []btree.Change) {
	t.Helper()
	for some := range slices.Chunk(l, many) {
		wantDo(t, what, x, api.OK, some...)
	}
}

// order is one in which keys come or go.
type order struct {
	name  string
	place func(n, count int) int
}

func orders() []order {
	return []order{
		{"up", func(n, _ int) int { return n }},
		{"down", func(n, count int) int { return count - 1 - n }},
		{"far apart", func(n, count int) int { return n * 211 % count }},
		{"from both ends", func(n, count int) int {
			if n%2 == 0 {
				return n / 2
			}
			return count - 1 - n/2
		}},
		{"from the middle", func(n, count int) int { return (n + count/2) % count }},
	}
}

// inOrder answers so many changes in that order.
func (o order) inOrder(count int, change func(n int) btree.Change) []btree.Change {
	var l []btree.Change
	for n := range count {
		l = append(l, change(o.place(n, count)))
	}
	return l
}

// TestAnyOrder: P6.2, P6.3, hundreds of keys come in one order and go in another one, by one, few or many in a call, down to none, and come again.
func TestAnyOrder(t *testing.T) {
	const count = 300
	puts := func(n int) btree.Change { return put(fmt.Sprintf("%0*d", 3+n%38, n), letters(n*17%390)) }
	drops := func(n int) btree.Change { return drop(string(puts(n).Key)) }
	want := book{}
	for n := range count {
		want = want.with(puts(n))
	}
	if want.weight() > weightMost {
		t.Fatalf("%d bytes are more than a tree must have", want.weight())
	}
	for i, coming := range orders() {
		t.Run(coming.name, func(t *testing.T) {
			t.Parallel()
			d, x := fresh(t)
			for j, going := range orders() {
				many := []int{1, 3, api.MaxChanges}[(i+j)%3]
				doAll(t, "coming "+coming.name, x, many, coming.inOrder(count, puts))
				wantBook(t, "come "+coming.name, opened(t, d), want)
				l := going.inOrder(count, drops)
				doAll(t, "going "+going.name, x, many, l[:count-7])
				half := want.with(l[:count-7]...)
				wantBook(t, "gone but for seven", opened(t, d), half)
				doAll(t, "going "+going.name, x, many, l[count-7:])
				wantBook(t, "gone "+going.name, opened(t, d), book{})
			}
		})
	}
}

// TestSmallPairs: P6.2, thousands of the smallest pairs, which the bound permits.
func TestSmallPairs(t *testing.T) {
	d, x := fresh(t)
	want := book{}
	var l []btree.Change
	for n := range weightMost / 18 {
		l = append(l, put(string([]byte{byte(n * 7 >> 8), byte(n * 7)}), ""))
	}
	doAll(t, "small pairs", x, api.MaxChanges, l)
	want = want.with(l...)
	if weightMost-want.weight() >= 18 {
		t.Fatalf("%d bytes", want.weight())
	}
	wantBook(t, "small pairs", opened(t, d), want)
	for i := range l {
		l[i].Drop = i%50 > 0
	}
	doAll(t, "small pairs, dropped", x, api.MaxChanges, l)
	wantBook(t, "small pairs, dropped", opened(t, d), book{}.with(l...).with())
}

// drawn draws a change: of a key that there is, now and then, and a Drop, so many times of ten.
func drawn(r *rand.Rand, keys []string, value int, drops int) btree.Change {
	key := make([]byte, []int{1, 2, 3, 1 + r.Intn(api.MaxKey), api.MaxKey}[r.Intn(5)])
	for i := range key {
		key[i] = byte(r.Intn(4) * 85)
	}
	if r.Intn(2) == 0 {
		r.Read(key)
	}
	if len(keys) > 0 && r.Intn(10) < drops+2 {
		key = []byte(keys[r.Intn(len(keys))])
	}
	return btree.Change{Key: key, Value: bytes.Repeat([]byte{byte(value)}, value), Drop: r.Intn(10) < drops}
}

// drawnValue draws the size of a value by a turn's kind.
func drawnValue(r *rand.Rand, kind int) int {
	return []int{r.Intn(api.MaxValue + 1), api.MaxValue, 0, api.MaxValue - r.Intn(40), r.Intn(20)}[kind]
}

// TestAnyChanges: P6.2, P6.3, drawn changes of keys and values of all sizes, up to the bound, and over it as far as there are pages; Check tells each time that the tree is whole. Within the bound it is never full.
func TestAnyChanges(t *testing.T) {
	for seed := range 10 {
		t.Run(fmt.Sprint(seed), func(t *testing.T) {
			t.Parallel()
			r := rand.New(rand.NewSource(int64(seed)))
			d, x := fresh(t)
			want := book{}
			drops := 1
			for step := range 150 {
				if r.Intn(15) == 0 || want.weight() > weightMost*5/2 {
					drops = []int{0, 1, 3, 6, 9}[r.Intn(5)]
				}
				keys := slices.Sorted(maps.Keys(want))
				var l []btree.Change
				for range []int{1 + r.Intn(3), api.MaxChanges, 1 + r.Intn(api.MaxChanges)}[r.Intn(3)] {
					l = append(l, drawn(r, keys, drawnValue(r, (seed+step/50)%5), drops))
				}
				after := want.with(l...)
				switch why := x.Do(l...); {
				case why == api.OK:
					want = after
				case why != api.ErrFull || after.weight() <= weightMost:
					t.Fatalf("step %d: %v, with %d bytes behind it", step, why, after.weight())
				default:
					drops = 9
				}
				if x.Check() != api.OK || x.Len() != len(want) {
					t.Fatalf("step %d: Check %v, Len %d, want %d", step, x.Check(), x.Len(), len(want))
				}
				if step%30 == 0 {
					wantBook(t, fmt.Sprintf("step %d", step), x, want)
				}
			}
			d.Crash(disk.Cut{})
			wantBook(t, "in the end", opened(t, d), want)
		})
	}
}

// filling is a way to reach the bound: the size of each pair's key and value.
type filling struct {
	name string
	size func(n int) (key, value int)
}

func fillings() []filling {
	return []filling{
		{"largest pairs", func(int) (int, int) { return api.MaxKey, api.MaxValue }},
		{"pairs of which two just fit a page", func(int) (int, int) { return api.MaxKey, 400 }},
		{"large and small in turn", func(n int) (int, int) { return 5 + n%2*35, n % 2 * 400 }},
		{"long keys", func(int) (int, int) { return api.MaxKey, 0 }},
		{"half a page and more", func(n int) (int, int) { return api.MaxKey, 300 + n%7 }},
		{"all sizes", func(n int) (int, int) { return 5 + n%36, n * 31 % 401 }},
		{"a third of a page", func(n int) (int, int) { return 10, 330 }},
	}
}

// pair answers the n-th pair of a filling, of that round: keys of other rounds are others.
func (f filling) pair(round, n int) btree.Change {
	size, value := f.size(n)
	key := fmt.Sprintf("%05d", n)
	return put(key+strings.Repeat(string([]byte{byte('a' + round)}), size-len(key)), strings.Repeat(string([]byte{byte('0' + round)}), value))
}

// full answers pairs up to the bound, by those places, as near to it as this size comes.
func (f filling) full(round int) []btree.Change {
	var l []btree.Change
	weight := 0
	for n := 0; ; n++ {
		c := f.pair(round, n)
		if weight += len(c.Key) + len(c.Value) + 16; weight > weightMost {
			return l
		}
		l = append(l, c)
	}
}

// TestNeverFull: P6.2, a tree that has as much as the bound permits is never full: pairs are put in any order, dropped and put again, those of one round in the place of those of another one, in one call and in many.
func TestNeverFull(t *testing.T) {
	for i, f := range fillings() {
		t.Run(f.name, func(t *testing.T) {
			t.Parallel()
			d, x := fresh(t)
			old := f.full(0)
			o := orders()[i%5]
			doAll(t, "first", x, 1+i*13, o.inOrder(len(old), func(n int) btree.Change { return old[n] }))
			want := book{}.with(old...)
			wantBook(t, "at the bound", x, want)
			for round := 1; round < 4; round++ {
				o := orders()[(i+round)%5]
				l := f.full(round)
				var both []btree.Change
				for n := range l {
					k := o.place(n, len(l))
					both = append(both, l[k], drop(string(old[k].Key)))
				}
				many := []int{api.MaxChanges, 2, 20}[round%3]
				doAll(t, fmt.Sprintf("round %d", round), x, many, both)
				want, old = want.with(both...), l
				wantBook(t, fmt.Sprintf("round %d", round), x, want)
			}
			d.Crash(disk.Cut{})
			wantBook(t, "in the end", opened(t, d), want)
		})
	}
}

// TestThinnedOut: P6.2, a tree has more than the bound, and is thinned out to it, so that full pages and nearly empty ones lie in turn; at the bound it is never full.
func TestThinnedOut(t *testing.T) {
	for every := range 5 {
		t.Run(fmt.Sprint(every), func(t *testing.T) {
			t.Parallel()
			d, x := fresh(t)
			key := func(n int) string { return fmt.Sprintf("%04d%s", n, letters(36)) }
			want := book{}
			const count = 1830
			for n := range count {
				c := put(key(n), letters(70+n%3))
				wantDo(t, "more than the bound", x, api.OK, c)
				want.do(c)
			}
			for n := range count {
				k := orders()[every].place(n, count)
				if k%16 < 8 || k%16 == 12 {
					continue
				}
				wantDo(t, "thinned out", x, api.OK, drop(key(k)))
				want.do(drop(key(k)))
			}
			if want.weight() > weightMost || want.weight() < weightMost-1000 {
				t.Fatalf("%d bytes", want.weight())
			}
			for n := range 200 {
				k := (n*7 + every) * 16 % count
				l := []btree.Change{drop(key(k)), drop(key(k + 1)), put(key(k + 1)[:39]+"y", letters(71)), drop(key(k)[:39] + "y")}
				if after := want.with(l...); after.weight() <= weightMost {
					wantDo(t, "at the bound", x, api.OK, l...)
					want = after
				}
			}
			wantBook(t, "in the end", opened(t, d), want)
		})
	}
}

// TestPeaks: P6.2, what the changes of one call put and drop again does not count: only what is there behind them.
func TestPeaks(t *testing.T) {
	d, x := fresh(t)
	f := fillings()[0]
	l := f.full(0)
	doAll(t, "ahead", x, api.MaxChanges, l)
	want := book{}.with(l...)
	for round := range 20 {
		var some []btree.Change
		for n := range 40 {
			some = append(some, f.pair(1, round*40%280+n))
		}
		for n := range 40 {
			some = append(some, drop(string(some[n].Key)))
		}
		wantDo(t, "put and dropped", x, api.OK, some...)
		wantBook(t, "put and dropped", x, want)
	}
	wantBook(t, "put and dropped", opened(t, d), want)
}

// filled answers a tree that is full: two more pairs are refused with ErrFull.
func filled(t *testing.T, f filling) (*disk.Disk, *btree.Tree, book) {
	t.Helper()
	d, x := fresh(t)
	want := book{}
	for n := 0; ; n += 2 {
		l := []btree.Change{f.pair(0, n), f.pair(0, n+1)}
		switch why := x.Do(l...); {
		case why == api.OK:
			want.do(l...)
		case why == api.ErrFull && want.with(l...).weight() > weightMost:
			return d, x, want
		default:
			t.Fatalf("%s: %v, with %d bytes", f.name, why, want.weight())
		}
	}
}

// TestFull: P6.2, R3, a tree that is full: ErrFull, and nothing has changed, in this Tree and when it is opened again; Drops are done, and make room.
func TestFull(t *testing.T) {
	for _, f := range fillings() {
		t.Run(f.name, func(t *testing.T) {
			t.Parallel()
			d, x, want := filled(t, f)
			var more []btree.Change
			for n := range api.MaxChanges {
				more = append(more, put(fmt.Sprintf("more%036d", n), letters(400)))
			}
			wantRefused(t, "full", d, x, api.ErrFull, more...)
			mixed := append([]btree.Change{drop(string(f.pair(0, 0).Key)), put(string(f.pair(0, 9).Key), "")}, more[:70]...)
			wantRefused(t, "full, with a Drop", d, x, api.ErrFull, mixed...)
			wantRefused(t, "full, and wrong", d, x, api.ErrArg, append(mixed, put("", ""))...)
			wantBook(t, "full", x, want)
			d.Crash(disk.Cut{})
			x = opened(t, d)
			wantBook(t, "full, crashed", x, want)
			for n := range 100 {
				c := drop(string(f.pair(0, n*3).Key))
				wantDo(t, "a Drop", x, api.OK, c)
				want = want.with(c)
			}
			l := []btree.Change{f.pair(0, 0), f.pair(0, 30), f.pair(0, 60)}
			wantDo(t, "room again", x, api.OK, l...)
			wantBook(t, "room again", opened(t, d), want.with(l...))
		})
	}
}

// TestEmptiedAndFilledAgain: P6.2, no page is lost: a tree is filled, emptied by one, few or many in a call, and filled again with as much.
func TestEmptiedAndFilledAgain(t *testing.T) {
	d, x, want := filled(t, fillings()[4])
	var puts, drops []btree.Change
	for _, k := range slices.Sorted(maps.Keys(want)) {
		puts, drops = append(puts, put(k, want[k])), append(drops, drop(k))
	}
	for round, many := range []int{api.MaxChanges, 7, 1} {
		o := orders()[2+round]
		doAll(t, "emptied", x, many, o.inOrder(len(drops), func(n int) btree.Change { return drops[n] }))
		wantBook(t, "emptied", opened(t, d), book{})
		doAll(t, "filled again", x, 2, puts)
		wantBook(t, "filled again", opened(t, d), want)
	}
}
