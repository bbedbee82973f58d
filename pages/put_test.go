package pages_test

import (
	"fmt"
	"math/rand"
	"slices"
	"testing"

	"deponent/api"
	"deponent/disk"
	"deponent/pages"
)

// wantRefused tells that a Put is refused with ErrArg and changes nothing, on a disk that is stopped and has a write pending too.
func wantRefused(t *testing.T, what string, d *disk.Disk, s *pages.Store, l ...pages.Sheet) {
	t.Helper()
	was := image(d)
	wantPut(t, what, s, api.ErrArg, l...)
	e := d.Copy()
	x := opened(t, e)
	b, _ := e.Read(0)
	e.Write(0, b)
	e.Stop(0)
	wantPut(t, what+", stopped", x, api.ErrArg, l...)
	if image(d) != was || d.Pending() != 0 || image(e) != was || e.Pending() != 1 {
		t.Fatalf("%s: a refused Put has written", what)
	}
}

// sheets answers sheets of those pages, each patterned by its place and the seed.
func sheets(seed int, l ...int) []pages.Sheet {
	var out []pages.Sheet
	for k, n := range l {
		out = append(out, sheet(n, seed+k))
	}
	return out
}

// upTo answers the numbers from from on, so many.
func upTo(from, count int) []int {
	var l []int
	for n := range count {
		l = append(l, from+n)
	}
	return l
}

// TestPutOfEachPage: P5.2, each page by itself, put once and again, with no other one changed.
func TestPutOfEachPage(t *testing.T) {
	d, s := fresh(t)
	want := book{}
	for n := range api.MaxPages {
		wantPut(t, "each page", s, api.OK, sheet(n, n))
		want = want.with(sheet(n, n))
		wantPage(t, "each page", s, n, patterned(n))
	}
	wantBook(t, "each page", s, want)
	for _, n := range []int{0, 1, 7, 8, 255, 256, 510, 511} {
		wantPut(t, "once more", s, api.OK, sheet(n, n+1000))
		want = want.with(sheet(n, n+1000))
		wantBook(t, "once more", s, want)
	}
	wantPut(t, "noughts", s, api.OK, pages.Sheet{N: 9, B: noughts})
	delete(want, 9)
	wantBook(t, "noughts", s, want)
	d.Crash(disk.Cut{})
	wantBook(t, "crashed", opened(t, d), want)
}

// TestPutTogether: P5.2, several pages, in any order of their sheets.
func TestPutTogether(t *testing.T) {
	r := rand.New(rand.NewSource(1))
	d, s := fresh(t)
	want := book{}
	for round, count := range []int{1, 2, 2, 3, 5, 8, 17, 100, 255, api.MaxBatch, api.MaxBatch} {
		l := sheets(1000*round, r.Perm(api.MaxPages)[:count]...)
		wantPut(t, "together", s, api.OK, l...)
		want = want.with(l...)
		if d.Pending() != 0 {
			t.Fatalf("%d sheets: %d writes are pending", count, d.Pending())
		}
		wantBook(t, fmt.Sprintf("%d sheets", count), s, want)
		d.Crash(disk.Cut{})
		wantBook(t, fmt.Sprintf("%d sheets, crashed", count), opened(t, d), want)
	}
}

// TestPutOfNothing: P5.2, R4, no sheets, nil or empty, are OK, and change nothing.
func TestPutOfNothing(t *testing.T) {
	d, s := fresh(t)
	wantPut(t, "ahead", s, api.OK, sheet(3, 1))
	was := image(d)
	for _, l := range [][]pages.Sheet{nil, {}, make([]pages.Sheet, 0, 4)} {
		wantPut(t, "nothing", s, api.OK, l...)
	}
	if image(d) != was || d.Pending() != 0 {
		t.Fatal("Put of nothing has written")
	}
}

// TestPutOfNoPage: P5.2, R5, a sheet of no page, alone, or at any place among others.
func TestPutOfNoPage(t *testing.T) {
	d, s := fresh(t)
	wantPut(t, "ahead", s, api.OK, sheet(0, 1), sheet(511, 2))
	for _, n := range wrongPages() {
		wantRefused(t, fmt.Sprintf("page %d", n), d, s, sheet(n, 3))
	}
	for _, n := range []int{-1, api.MaxPages} {
		for at := range 4 {
			l := slices.Insert(sheets(5, 0, 100, 511), at, sheet(n, 4))
			wantRefused(t, fmt.Sprintf("page %d, as the sheet %d of 4", n, at), d, s, l...)
		}
	}
}

// TestPutOfOtherSizes: P5.2, sheets that have not Page bytes, whatever room is behind them.
func TestPutOfOtherSizes(t *testing.T) {
	d, s := fresh(t)
	wantPut(t, "ahead", s, api.OK, sheet(3, 1))
	for _, size := range []int{0, 1, api.Sector, api.Page - api.Sector, api.Page - 1, api.Page + 1, api.Page + api.Sector, 2 * api.Page, 1 << 16} {
		x := pages.Sheet{N: 3, B: full(7, 1<<16+9)[:size]}
		wantRefused(t, fmt.Sprintf("%d bytes", size), d, s, x)
		for at := range 3 {
			wantRefused(t, fmt.Sprintf("%d bytes, among others", size), d, s, slices.Insert(sheets(5, 2, 4), at, x)...)
		}
	}
	wantRefused(t, "nil", d, s, pages.Sheet{N: 3})
	room := pages.Sheet{N: 3, B: full(7, api.Page+9)[:api.Page]}
	wantPut(t, "Page bytes, with room behind them", s, api.OK, room)
	wantPage(t, "Page bytes, with room behind them", s, 3, full(7, api.Page))
}

// TestPutOfTwoOfOnePage: P5.2, side by side or not, alike or not.
func TestPutOfTwoOfOnePage(t *testing.T) {
	d, s := fresh(t)
	for _, l := range [][]int{{3, 3}, {0, 0}, {511, 511}, {3, 4, 3}, {4, 3, 3}, {3, 3, 4}, {5, 5, 5}, {1, 2, 3, 4, 5, 1}, {6, 2, 9, 2, 7}} {
		wantRefused(t, fmt.Sprint(l), d, s, sheets(1, l...)...)
	}
	wantRefused(t, "the same sheet twice", d, s, sheet(3, 1), sheet(3, 1))
	for _, at := range []int{0, 1, 100, api.MaxBatch - 2} {
		l := sheets(1, upTo(0, api.MaxBatch)...)
		l[api.MaxBatch-1].N = at
		wantRefused(t, "two of one page among MaxBatch", d, s, l...)
	}
}

// TestPutOfMany: P5.2, the limit MaxBatch, and one past it.
func TestPutOfMany(t *testing.T) {
	d, s := fresh(t)
	want := book{}
	for seed, from := range []int{0, 1, 100, api.MaxPages - api.MaxBatch - 1, api.MaxPages - api.MaxBatch} {
		l := sheets(seed, upTo(from, api.MaxBatch)...)
		wantPut(t, "MaxBatch", s, api.OK, l...)
		want = want.with(l...)
		wantBook(t, "MaxBatch", opened(t, d), want)
	}
	wantRefused(t, "one more", d, s, sheets(9, upTo(0, api.MaxBatch+1)...)...)
	wantRefused(t, "all pages", d, s, sheets(9, upTo(0, api.MaxPages)...)...)
	wantRefused(t, "more than there are", d, s, sheets(9, upTo(0, api.MaxPages+1)...)...)
	wantBook(t, "refused", s, want)
}

// TestPutOfSeveralWrongs: P5.2, R3, a Put with several wrongs at once, and one that the disk would refuse besides.
func TestPutOfSeveralWrongs(t *testing.T) {
	d, s := fresh(t)
	short := pages.Sheet{N: 4, B: full(1, api.Page-1)}
	none := pages.Sheet{N: -1}
	wantRefused(t, "short, no page", d, s, short, none)
	wantRefused(t, "no page, short, twice", d, s, none, short, short, none)
	wantRefused(t, "twice, one of them short", d, s, short, sheet(4, 1))
	wantRefused(t, "many, no page, short, twice", d, s, append(sheets(9, upTo(0, api.MaxBatch)...), none, short, sheet(0, 1))...)
}

// TestPutIsRefused: P5.2, what the disk refuses; nothing of it is seen if nothing is kept.
func TestPutIsRefused(t *testing.T) {
	d, s := fresh(t)
	wantPut(t, "ahead", s, api.OK, sheet(3, 1))
	d.Stop(0)
	wantPut(t, "stopped", s, api.ErrDisk, sheet(3, 2), sheet(4, 3))
	d.Crash(disk.Cut{})
	wantBook(t, "crashed", opened(t, d), book{}.with(sheet(3, 1)))
}

// TestAnyPuts: P5.2, drawn Puts, right and wrong ones, with crashes between that lose nothing.
func TestAnyPuts(t *testing.T) {
	r := rand.New(rand.NewSource(2))
	d, s := fresh(t)
	want := book{}
	for round := range 400 {
		var l []int
		for range r.Intn(5) {
			l = append(l, r.Intn(14)-1)
		}
		if r.Intn(4) == 0 {
			l = r.Perm(api.MaxPages)[:r.Intn(api.MaxBatch+1)]
		}
		x := sheets(round*10, l...)
		sorted := slices.Sorted(slices.Values(l))
		right := len(slices.Compact(slices.Clone(sorted))) == len(l) && (len(l) == 0 || sorted[0] >= 0)
		if right {
			wantPut(t, fmt.Sprint(l), s, api.OK, x...)
			want = want.with(x...)
		} else {
			wantPut(t, fmt.Sprint(l), s, api.ErrArg, x...)
		}
		if r.Intn(3) == 0 {
			d.Crash(disk.Cut{})
			s = opened(t, d)
		}
		if r.Intn(4) == 0 {
			wantBook(t, fmt.Sprint(l), s, want)
		}
	}
	wantBook(t, "at the end", opened(t, d), want)
}

// TestTwoStores: P5.2, Stores of one disk tell the same, whichever of them puts.
func TestTwoStores(t *testing.T) {
	d, s := fresh(t)
	l := []*pages.Store{s, opened(t, d), opened(t, d)}
	want := book{}
	for k := range 12 {
		x := sheets(100*k, k%5, k%7+20)
		wantPut(t, "one of three", l[k*k%3], api.OK, x...)
		want = want.with(x...)
		for _, s := range l {
			wantBook(t, "one of three", s, want)
		}
	}
}

// TestTwoDisks: two disks don't see one another.
func TestTwoDisks(t *testing.T) {
	d, s := fresh(t)
	wantPut(t, "ahead", s, api.OK, sheet(1, 1))
	e := d.Copy()
	x := opened(t, e)
	wantPut(t, "one", s, api.OK, sheet(2, 2))
	wantPut(t, "the other", x, api.OK, sheet(1, 3))
	wantBook(t, "one", s, book{}.with(sheet(1, 1), sheet(2, 2)))
	wantBook(t, "the other", x, book{}.with(sheet(1, 3)))
}
