package btree_test

import (
	"fmt"
	"maps"
	"slices"
	"strconv"
	"strings"
	"testing"

	"deponent/api"
	"deponent/btree"
	"deponent/disk"
	"deponent/pages"
)

func put(key, value string) btree.Change { return btree.Change{Key: []byte(key), Value: []byte(value)} }

func drop(key string) btree.Change { return btree.Change{Key: []byte(key), Drop: true} }

func made(t *testing.T, sectors int) *disk.Disk {
	t.Helper()
	d, why := disk.New(sectors)
	if why != api.OK {
		t.Fatalf("disk.New(%d): %v", sectors, why)
	}
	return d
}

func formatted(t *testing.T) *disk.Disk {
	t.Helper()
	d := made(t, api.Need)
	wantFormat(t, "a new disk", d, api.OK)
	return d
}

func wantFormat(t *testing.T, what string, d *disk.Disk, want api.Errno) {
	t.Helper()
	if why := btree.Format(d); why != want {
		t.Fatalf("%s: Format: %v, want %v", what, why, want)
	}
}

func opened(t *testing.T, d *disk.Disk) *btree.Tree {
	t.Helper()
	x, why := btree.Open(d)
	if why != api.OK || x == nil {
		t.Fatalf("Open: %v, %v", x, why)
	}
	return x
}

func fresh(t *testing.T) (*disk.Disk, *btree.Tree) {
	t.Helper()
	d := formatted(t)
	return d, opened(t, d)
}

func wantNone(t *testing.T, what string, d *disk.Disk, want api.Errno) {
	t.Helper()
	if x, why := btree.Open(d); why != want || x != nil {
		t.Fatalf("%s: Open: %v, %v, want %v", what, x, why, want)
	}
}

func wantDo(t *testing.T, what string, x *btree.Tree, want api.Errno, l ...btree.Change) {
	t.Helper()
	if why := x.Do(l...); why != want {
		t.Fatalf("%s: Do of %d changes: %v, want %v", what, len(l), why, want)
	}
}

func wantGet(t *testing.T, what string, x *btree.Tree, key, want string, has bool) {
	t.Helper()
	if v, ok := x.Get([]byte(key)); ok != has || string(v) != want {
		t.Fatalf("%s: Get(%q): %q, %v, want %q, %v", what, key, v, ok, want, has)
	}
}

// book is what a tree must have: values by keys.
type book map[string]string

// with answers the book behind those changes, done one after the other.
func (b book) with(l ...btree.Change) book {
	c := book{}
	maps.Copy(c, b)
	c.do(l...)
	return c
}

// do does those changes in the book, one after the other.
func (b book) do(l ...btree.Change) {
	for _, x := range l {
		if x.Drop {
			delete(b, string(x.Key))
		} else {
			b[string(x.Key)] = string(x.Value)
		}
	}
}

// between answers the pairs of the book from from on and below to, as told tells them.
func (b book) between(from, to string) string {
	var out strings.Builder
	for _, k := range slices.Sorted(maps.Keys(b)) {
		if k >= from && (to == "" || k < to) {
			out.WriteString(pairText(k, b[k]))
		}
	}
	return out.String()
}

func (b book) String() string { return b.between("", "") }

// weight answers the bytes of the book, with 16 more for each pair: those that P6.2 speaks of.
func (b book) weight() int {
	n := 0
	for k, v := range b {
		n += len(k) + len(v) + 16
	}
	return n
}

// weightMost is how much a tree is always able to have.
const weightMost = 1 << 17

// told answers the pairs that a range hands out.
func told(x *btree.Tree, from, to []byte) string {
	var out strings.Builder
	for p := range x.Range(from, to) {
		out.WriteString(pairText(string(p.Key), string(p.Value)))
	}
	return out.String()
}

// pairText answers a pair as told tells it; long values stand as they are, as there are many of them.
func pairText(key, value string) string {
	if len(value) < 50 {
		value = strconv.Quote(value)
	}
	return strconv.Quote(key) + "=" + value + " "
}

// wantBook tells that the tree has what the book has, by each of its calls.
func wantBook(t *testing.T, what string, x *btree.Tree, want book) {
	t.Helper()
	if got := told(x, nil, nil); got != want.String() {
		t.Fatalf("%s: the pairs are\n%.2000s, want\n%.2000s", what, got, want)
	}
	if x.Len() != len(want) || x.Check() != api.OK {
		t.Fatalf("%s: Len %d, want %d; Check %v", what, x.Len(), len(want), x.Check())
	}
	for k, v := range want {
		wantGet(t, what, x, k, v, true)
	}
}

// image answers all that a disk shows.
func image(d *disk.Disk) string {
	var out strings.Builder
	for n := range d.Sectors() {
		b, _ := d.Read(n)
		out.Write(b)
	}
	return out.String()
}

// TestRuns: the chapter's section 'Runs'.
func TestRuns(t *testing.T) {
	_, x := fresh(t)
	wantDo(t, "b 1, a 2", x, api.OK, put("b", "1"), put("a", "2"))
	if got := told(x, nil, nil); got != `"a"="2" "b"="1" ` {
		t.Fatalf("b 1, a 2: %s", got)
	}
	_, x = fresh(t)
	wantDo(t, "a 1, a Drop", x, api.OK, put("a", "1"), drop("a"))
	wantGet(t, "a 1, a Drop", x, "a", "", false)
	wantBook(t, "a 1, a Drop", x, book{})
	wantDo(t, "an empty key", x, api.ErrArg, put("", "1"))
	wantBook(t, "an empty key", x, book{})
}

// TestExamples: the chapter's section 'Examples'.
func TestExamples(t *testing.T) {
	d, x := fresh(t)
	wantDo(t, "Drop of a key that isn't there", x, api.OK, drop("a"))
	wantDo(t, "an empty value", x, api.OK, put("a", ""))
	wantGet(t, "an empty value", x, "a", "", true)
	wantBook(t, "an empty value", opened(t, d), book{"a": ""})
	for _, key := range [][]byte{nil, {}, make([]byte, 0, 8)} {
		if v, ok := x.Get(key); ok || len(v) != 0 {
			t.Fatalf("Get of no key: %q, %v", v, ok)
		}
	}
}

// TestNoDisk: P6.1, R1, a nil disk.
func TestNoDisk(t *testing.T) {
	wantFormat(t, "no disk", nil, api.ErrArg)
	wantNone(t, "no disk", nil, api.ErrArg)
}

// TestSmallDisks: P6.1, disks of fewer sectors than Need, stopped or not: nothing is written.
func TestSmallDisks(t *testing.T) {
	for _, sectors := range []int{1, 9, 4096, api.Need - 1} {
		d := made(t, sectors)
		for range 2 {
			wantFormat(t, "a small disk", d, api.ErrArg)
			wantNone(t, "a small disk", d, api.ErrArg)
			if d.Pending() != 0 || strings.Trim(image(d), "\x00") != "" {
				t.Fatalf("%d sectors: something was written", sectors)
			}
			d.Stop(0)
		}
	}
}

// TestLargeDisks: P6.1, disks of as many sectors as Need, and of more.
func TestLargeDisks(t *testing.T) {
	for _, sectors := range []int{api.Need, api.Need + 1, api.MaxSectors} {
		d := made(t, sectors)
		wantFormat(t, "a large disk", d, api.OK)
		wantBook(t, "a large disk", opened(t, d), book{})
		wantDo(t, "a large disk", opened(t, d), api.OK, put("a", "1"))
		wantBook(t, "a large disk", opened(t, d), book{"a": "1"})
	}
}

// TestUnformatted: P6.1, noughts are no tree.
func TestUnformatted(t *testing.T) {
	wantNone(t, "noughts", made(t, api.Need), api.ErrDisk)
	wantNone(t, "more noughts", made(t, api.MaxSectors), api.ErrDisk)
}

// TestPagesWithoutATree: P6.1, a disk that holds pages, but no tree; Format makes one of it.
func TestPagesWithoutATree(t *testing.T) {
	d := made(t, api.Need)
	if why := pages.Format(d); why != api.OK {
		t.Fatalf("pages.Format: %v", why)
	}
	wantNone(t, "pages of noughts", d, api.ErrDisk)
	s, _ := pages.Open(d)
	for _, c := range []string{"\x01", "\xff", "a", "\x00\x01", "keys in order"} {
		b := []byte(strings.Repeat(c, api.Page)[:api.Page])
		s.Put(pages.Sheet{N: 0, B: b}, pages.Sheet{N: 1, B: b}, pages.Sheet{N: 511, B: b})
		wantNone(t, fmt.Sprintf("pages of %q", c), d, api.ErrDisk)
	}
	wantFormat(t, "pages", d, api.OK)
	wantBook(t, "formatted", opened(t, d), book{})
}

// TestFormatAnew: P6.1, a disk that had keys has none behind Format, and works; so it is behind pages.Format too, but that there is no tree.
func TestFormatAnew(t *testing.T) {
	d, x := fresh(t)
	for _, count := range []int{1, 10, 80} {
		var l []btree.Change
		for n := range count {
			l = append(l, put(fmt.Sprint("key", n), strings.Repeat("v", n*5)))
		}
		wantDo(t, "ahead", x, api.OK, l...)
		wantFormat(t, "anew", d, api.OK)
		if d.Pending() != 0 {
			t.Fatalf("%d writes are pending", d.Pending())
		}
		d.Crash(disk.Cut{})
		wantBook(t, "formatted anew", opened(t, d), book{})
		x = opened(t, d)
		wantDo(t, "formatted anew", x, api.OK, put("a", "1"))
		wantBook(t, "formatted anew", opened(t, d), book{"a": "1"})
	}
	pages.Format(d)
	wantNone(t, "pages formatted anew", d, api.ErrDisk)
}

// TestStoppedDisk: P6.1, what the disk refuses.
func TestStoppedDisk(t *testing.T) {
	d := made(t, api.Need)
	d.Stop(0)
	wantFormat(t, "stopped", d, api.ErrDisk)
	d.Crash(disk.Cut{})
	wantNone(t, "stopped", d, api.ErrDisk)
	d, x := fresh(t)
	wantDo(t, "ahead", x, api.OK, put("a", "1"))
	b, _ := d.Read(api.Need - 1)
	d.Write(api.Need-1, b)
	d.Stop(0)
	wantNone(t, "stopped, with a write pending", d, api.ErrDisk)
	d.Crash(disk.Cut{})
	d.Stop(0)
	wantBook(t, "stopped", opened(t, d), book{"a": "1"})
}

// TestOpenChangesNothing: P6.1, Open leaves the disk as it is, and an older Tree goes on; all Trees of a disk tell the same.
func TestOpenChangesNothing(t *testing.T) {
	d, x := fresh(t)
	want := book{}
	for k := range 5 {
		was := image(d)
		y := opened(t, d)
		if image(d) != was || d.Pending() != 0 {
			t.Fatal("Open has written")
		}
		c := put(fmt.Sprint(k), strings.Repeat("v", k*100))
		wantDo(t, "an older Tree", x, api.OK, c)
		want = want.with(c)
		wantBook(t, "an older Tree", x, want)
		wantBook(t, "a newer Tree", y, want)
		x, y = y, x
	}
}

// TestEmptyTree: P6.3, a tree without keys, new, and one that had some.
func TestEmptyTree(t *testing.T) {
	d, x := fresh(t)
	for round := range 3 {
		for _, y := range []*btree.Tree{x, opened(t, d)} {
			wantBook(t, "empty", y, book{})
			for _, k := range []string{"", "a", "key0", strings.Repeat("k", api.MaxKey), strings.Repeat("k", api.MaxKey+1)} {
				wantGet(t, "empty", y, k, "", false)
				for p := range y.Range([]byte(k), nil) {
					t.Fatalf("empty: %q", p.Key)
				}
			}
			if y.Len() != 0 || y.Check() != api.OK {
				t.Fatalf("empty: Len %d, Check %v", y.Len(), y.Check())
			}
		}
		var puts, drops []btree.Change
		for n := range 10 + 30*round {
			puts = append(puts, put(fmt.Sprint("key", n), strings.Repeat("v", 100*round)))
			drops = append(drops, drop(fmt.Sprint("key", n)))
		}
		wantDo(t, "some", x, api.OK, puts...)
		wantDo(t, "none", x, api.OK, drops...)
	}
}
