package btree_test

import (
	"fmt"
	"maps"
	"slices"
	"testing"

	"deponent/api"
	"deponent/btree"
	"deponent/disk"
)

// none is what is found where there is no tree.
const none = "none"

// found answers what Open finds, and tells that an Open that is stopped and crashed changes nothing.
func found(t *testing.T, what string, d *disk.Disk, stop int) string {
	t.Helper()
	d.Stop(stop)
	first, early := btree.Open(d)
	got := ""
	if early == api.OK {
		got = told(first, nil, nil)
	}
	d.Crash(disk.Cut{Keep: []bool{stop%2 == 0}, Torn: 1, Bytes: 50})
	x, why := btree.Open(d)
	switch {
	case why == api.ErrDisk && x == nil && early == api.ErrDisk:
		return none
	case why != api.OK || x.Check() != api.OK:
		t.Fatalf("%s: Open: %v", what, why)
	case early == api.OK && got != told(x, nil, nil):
		t.Fatalf("%s: opened again: %s, want %s", what, told(x, nil, nil), got)
	}
	return told(x, nil, nil)
}

// bring makes the tree on d what the book is; it is formatted, if there is none.
func bring(t *testing.T, d *disk.Disk, want book) *btree.Tree {
	t.Helper()
	x, why := btree.Open(d)
	if why != api.OK {
		wantFormat(t, "bringing it back", d, api.OK)
		x = opened(t, d)
	}
	var l []btree.Change
	for p := range x.Range(nil, nil) {
		if v, ok := want[string(p.Key)]; !ok {
			l = append(l, drop(string(p.Key)))
		} else if v == string(p.Value) {
			continue
		}
	}
	for _, k := range slices.Sorted(maps.Keys(want)) {
		if v, ok := x.Get([]byte(k)); !ok || string(v) != want[k] {
			l = append(l, put(k, want[k]))
		}
	}
	doAll(t, "bringing it back", x, api.MaxChanges, l)
	if got := told(x, nil, nil); got != want.String() {
		t.Fatalf("bringing it back: %s, want %s", got, want)
	}
	return x
}

// cutsOf answers choices of what is kept of so many writes, some of them with one torn, and one write torn behind each step-th byte, the last one more often than others.
func cutsOf(pending, from, step int) []disk.Cut {
	var l []disk.Cut
	for choice := range 8 {
		keep := make([]bool, pending)
		for k := range pending {
			keep[k] = []bool{false, true, k%2 == 0, k%2 == 1, k < pending/2, k >= pending/2, k > 0, k < pending-1}[choice]
		}
		l = append(l, disk.Cut{Keep: keep, Torn: -1})
		if pending > 0 {
			l = append(l, disk.Cut{Keep: keep, Torn: (from + choice) % pending, Bytes: 1 + (from*31+choice*17)%(api.Sector-1)})
		}
		if pending == 0 {
			return l
		}
	}
	for bytes := from % step; bytes <= api.Sector; bytes += step {
		k := pending - 1
		if bytes%3 == 0 {
			k = (bytes + from) % pending
		}
		l = append(l, disk.Cut{Keep: slices.Repeat([]bool{true}, k), Torn: k, Bytes: bytes})
	}
	return l
}

// crashing is a call that is stopped and crashed in all ways, what was there ahead of it, and what there is behind it.
type crashing struct {
	name          string
	before, after book
	changes       []btree.Change // none: Format
	step          int            // between the bytes behind which a write is torn
	hop           int            // how many numbers of Writes and Flushes are left out between two
}

func (c crashing) do(d *disk.Disk, x *btree.Tree) api.Errno {
	if len(c.changes) == 0 {
		return btree.Format(d)
	}
	return x.Do(c.changes...)
}

// play plays the call, stopped after every number of Writes and Flushes, and crashed by those cuts; it tells that there is found what must be, and that a Do works on it.
func (c crashing) play(t *testing.T) {
	d := formatted(t)
	before, after := c.before.String(), c.after.String()
	allowed := []string{before, after}
	if len(c.changes) == 0 {
		allowed = append(allowed, none)
	}
	done := 0 // as the pages lie otherwise each time, a call needs a few Writes more or fewer
	for stop := 0; done < 5; stop += 1 + c.hop {
		cuts := 1
		for i := 0; i < cuts; i++ {
			what := fmt.Sprintf("%s stopped after %d, cut %d", c.name, stop, i)
			x := bring(t, d, c.before)
			d.Stop(stop)
			why := c.do(d, x)
			if why == api.OK {
				d.Crash(disk.Cut{})
				if got := found(t, what, d, 0); got != after {
					t.Fatalf("%s: acknowledged: %s, want %s", what, got, after)
				}
				done++
				continue
			}
			if why != api.ErrDisk {
				t.Fatalf("%s: %v", what, why)
			}
			l := cutsOf(d.Pending(), stop, c.step)
			cuts = max(cuts, len(l))
			cut := l[i%len(l)]
			d.Crash(cut)
			got := found(t, what, d, i%3)
			if !slices.Contains(allowed, got) {
				t.Fatalf("%s: %v: %s, want one of %q", what, cut, got, allowed)
			}
			if got != none && i%5 == 0 {
				goesOn(t, what, d, got)
			}
		}
	}
}

// goesOn tells that a Do works on what was found.
func goesOn(t *testing.T, what string, d *disk.Disk, got string) {
	t.Helper()
	x := opened(t, d)
	wantDo(t, what+", behind it", x, api.OK, put("\x00", "1"))
	d.Crash(disk.Cut{})
	if now := told(opened(t, d), nil, nil); now != `"\x00"="1" `+got {
		t.Fatalf("%s, behind it: %s, want one more than %s", what, now, got)
	}
}

// pairs answers so many pairs with values of that size.
func pairs(count, size int) book {
	b := book{}
	for n := range count {
		b.do(put(fmt.Sprintf("%03d%s", n, letters(n%38)), letters(size)))
	}
	return b
}

// long answers a key of MaxKey bytes. With values of MaxValue bytes two pairs fit a page, and of 50 there are three levels.
func long(n int) string { return fmt.Sprintf("%03d%s", n, letters(api.MaxKey-3)) }

// crashings answers calls of all kinds: on no keys, few, and on so many that there are several levels; such that need more pages, fewer, and as many.
func crashings() []crashing {
	few, many := pairs(6, 50), book{}
	for n := range 50 {
		many.do(put(long(n), letters(400)))
	}
	l := []crashing{
		{name: "the first key", before: book{}, changes: []btree.Change{put("a", "1")}, step: 1},
		{name: "the last keys go", before: pairs(2, 10), changes: []btree.Change{drop("000"), drop("001x")}, step: 2},
		{name: "other values", before: few, changes: []btree.Change{put("000", "1"), put("001x", letters(200)), drop("002xx"), put("003", "5")}, step: 2},
		{name: "one leaf becomes three", before: few, changes: []btree.Change{put("00", letters(400)), put("01", letters(400)), put("02", letters(390))}, step: 3},
		{name: "leaves become one", before: pairs(6, 300), changes: []btree.Change{drop("000"), drop("002xx"), drop("003xxx"), drop("004xxxx")}, step: 4},
		{name: "nothing that changes", before: few, changes: []btree.Change{drop("1"), put("000", letters(50))}, step: 4},
		{name: "many levels", before: many, changes: []btree.Change{put(long(5), "1"), put("005", letters(400)), drop(long(49))}, step: 60, hop: 4},
		{name: "one level fewer", before: many, changes: []btree.Change{drop(long(0)), drop(long(1)), drop(long(40)), drop(long(41))}, step: 60, hop: 3},
	}
	all := []btree.Change{}
	for k := range pairs(40, 0) {
		all = append(all, put(k, letters(100)))
	}
	slices.SortFunc(all, func(a, b btree.Change) int { return slices.Compare(a.Key, b.Key) })
	l = append(l, crashing{name: "many keys", before: book{}, changes: all, step: 60})
	for i := range l {
		l[i].after = l[i].before.with(l[i].changes...)
	}
	return append(l,
		crashing{name: "Format of none", before: book{}, after: book{}, step: 4},
		crashing{name: "Format of some", before: few, after: book{}, step: 4},
		crashing{name: "Format of many pages", before: pairs(12, 300), after: book{}, step: 60})
}

// TestCrashes: P6.4, W2, a Do and a Format, stopped after every number of Writes and Flushes, and crashed; an Open behind it, stopped and crashed, and one more; a Do behind that.
func TestCrashes(t *testing.T) {
	for _, c := range crashings() {
		t.Run(c.name, func(t *testing.T) {
			t.Parallel()
			c.play(t)
		})
	}
}

// TestFormatOfNoTree: P6.4, a Format of a disk that has nothing, or pages alone, leaves no tree, or one without keys.
func TestFormatOfNoTree(t *testing.T) {
	for stop := 0; ; stop++ {
		d := made(t, api.Need)
		d.Stop(stop)
		why := btree.Format(d)
		d.Crash(disk.Cut{Keep: []bool{stop%2 == 0, true, true}, Torn: 0, Bytes: stop})
		got := found(t, "a new disk", d, stop%3)
		if why == api.OK && got != "" || got != "" && got != none {
			t.Fatalf("stopped after %d: %v: %s", stop, why, got)
		}
		wantFormat(t, "again", d, api.OK)
		wantBook(t, "again", opened(t, d), book{})
		if why == api.OK {
			return
		}
	}
}

// TestSeenMeanwhile: P6.2, a Do that the disk has refused is seen whole or not at all, even ahead of a crash, by this Tree and by another one.
func TestSeenMeanwhile(t *testing.T) {
	few := pairs(20, 100)
	l := []btree.Change{put("005", letters(400)), drop("010xxxxxxxxxx"), put("1", letters(300)), put("2", letters(300))}
	for stop := 0; ; stop++ {
		d := formatted(t)
		x := bring(t, d, few)
		other := opened(t, d)
		d.Stop(stop)
		why := x.Do(l...)
		got := told(other, nil, nil)
		if got != few.with(l...).String() && (got != few.String() || why == api.OK) {
			t.Fatalf("stopped after %d: %v: %s", stop, why, got)
		}
		if told(x, nil, nil) != got || other.Check() != api.OK {
			t.Fatalf("stopped after %d: one Tree tells other pairs than another one", stop)
		}
		if why == api.OK {
			return
		}
	}
}
