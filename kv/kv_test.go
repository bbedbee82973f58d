package kv_test

import (
	"fmt"
	"maps"
	"slices"
	"strconv"
	"strings"
	"testing"

	"deponent/api"
	"deponent/btree"
	"deponent/disk"
	"deponent/kv"
	"deponent/pages"
)

func put(space byte, key, value string) kv.Change {
	return kv.Change{Space: space, Key: []byte(key), Value: []byte(value)}
}

func drop(space byte, key string) kv.Change {
	return kv.Change{Space: space, Key: []byte(key), Drop: true}
}

// letters answers so many bytes.
func letters(n int) string { return strings.Repeat("x", n) }

func made(t *testing.T, sectors int) *disk.Disk {
	t.Helper()
	d, why := disk.New(sectors)
	if why != api.OK {
		t.Fatalf("disk.New(%d): %v", sectors, why)
	}
	return d
}

func wantFormat(t *testing.T, what string, d *disk.Disk, want api.Errno) {
	t.Helper()
	if why := kv.Format(d); why != want {
		t.Fatalf("%s: Format: %v, want %v", what, why, want)
	}
}

func formatted(t *testing.T) *disk.Disk {
	t.Helper()
	d := made(t, api.Need)
	wantFormat(t, "a new disk", d, api.OK)
	return d
}

func opened(t *testing.T, d *disk.Disk, bound int) *kv.Store {
	t.Helper()
	s, why := kv.Open(d, bound)
	if why != api.OK || s == nil {
		t.Fatalf("Open with bound %d: %v, %v", bound, s, why)
	}
	return s
}

// fresh answers a new disk, and a Store of that bound on it.
func fresh(t *testing.T, bound int) (*disk.Disk, *kv.Store) {
	t.Helper()
	d := formatted(t)
	return d, opened(t, d, bound)
}

func wantNone(t *testing.T, what string, d *disk.Disk, bound int, want api.Errno) {
	t.Helper()
	if s, why := kv.Open(d, bound); why != want || s != nil {
		t.Fatalf("%s: Open with bound %d: %v, %v, want %v", what, bound, s, why, want)
	}
}

func wantDo(t *testing.T, what string, s *kv.Store, want api.Errno, l ...kv.Change) {
	t.Helper()
	if why := s.Do(l...); why != want {
		t.Fatalf("%s: Do of %d changes: %v, want %v", what, len(l), why, want)
	}
}

func wantGet(t *testing.T, what string, s *kv.Store, space byte, key, want string, has bool) {
	t.Helper()
	if v, ok := s.Get(space, []byte(key)); ok != has || string(v) != want {
		t.Fatalf("%s: Get(%d, %q): %q, %v, want %q, %v", what, space, key, v, ok, want, has)
	}
}

func wantUsed(t *testing.T, what string, s *kv.Store, want int) {
	t.Helper()
	if got := s.Used(); got != want {
		t.Fatalf("%s: Used %d, want %d", what, got, want)
	}
}

// name is where a value is.
type name struct {
	space byte
	key   string
}

// book is what a store must have.
type book map[name]string

// with answers the book behind those changes, done one after the other.
func (b book) with(l ...kv.Change) book {
	c := maps.Clone(b)
	for _, x := range l {
		n := name{x.Space, string(x.Key)}
		if x.Drop {
			delete(c, n)
		} else {
			c[n] = string(x.Value)
		}
	}
	return c
}

// used answers what Used must.
func (b book) used() int {
	n := 0
	for k, v := range b {
		n += len(k.key) + len(v) + 1
	}
	return n
}

// space answers the pairs of a space from that key on, as told tells them.
func (b book) space(space byte, from string) string {
	var keys []string
	for n := range b {
		if n.space == space && n.key >= from {
			keys = append(keys, n.key)
		}
	}
	slices.Sort(keys)
	var out strings.Builder
	for _, k := range keys {
		out.WriteString(pairText(k, b[name{space, k}]))
	}
	return out.String()
}

// String answers the pairs of all spaces, as toldAll tells them.
func (b book) String() string {
	var out strings.Builder
	for space := range 256 {
		if text := b.space(byte(space), ""); text != "" {
			out.WriteString(fmt.Sprint(space, ": ", text))
		}
	}
	return out.String()
}

// told answers the pairs that a range hands out.
func told(s *kv.Store, space byte, from []byte) string {
	var out strings.Builder
	for p := range s.Range(space, from) {
		out.WriteString(pairText(string(p.Key), string(p.Value)))
	}
	return out.String()
}

// toldAll answers the pairs of all spaces.
func toldAll(s *kv.Store) string {
	var out strings.Builder
	for space := range 256 {
		if text := told(s, byte(space), nil); text != "" {
			out.WriteString(fmt.Sprint(space, ": ", text))
		}
	}
	return out.String()
}

func pairText(key, value string) string { return strconv.Quote(key) + "=" + strconv.Quote(value) + " " }

// wantBook tells that the store has what the book has, by each of its calls.
func wantBook(t *testing.T, what string, s *kv.Store, want book) {
	t.Helper()
	if got := toldAll(s); got != want.String() {
		t.Fatalf("%s: the pairs are\n%.2000s, want\n%.2000s", what, got, want)
	}
	wantUsed(t, what, s, want.used())
	for n, v := range want {
		wantGet(t, what, s, n.space, n.key, v, true)
	}
}

// image answers all that a disk shows.
func image(d *disk.Disk) string {
	var out strings.Builder
	for n := range d.Sectors() {
		b, _ := d.Read(n)
		out.Write(b)
	}
	return out.String()
}

// TestRuns: the chapter's section 'Runs'.
func TestRuns(t *testing.T) {
	_, s := fresh(t, 100)
	wantDo(t, "a in two spaces", s, api.OK, put(1, "a", "x"), put(2, "a", "y"))
	wantGet(t, "a in two spaces", s, 1, "a", "x", true)
	wantUsed(t, "a in two spaces", s, 6)
	if got := told(s, 1, nil); got != `"a"="x" ` {
		t.Fatalf("Range(1, nothing): %s", got)
	}
	_, s = fresh(t, 2)
	wantDo(t, "bound 2", s, api.ErrFull, put(1, "a", "x"))
	wantBook(t, "bound 2", s, book{})
}

// TestExamples: the chapter's section 'Examples'.
func TestExamples(t *testing.T) {
	d, s := fresh(t, 100)
	want := book{{1, "a"}: "x", {1, "b"}: "y", {2, "a"}: "z"}
	wantDo(t, "ahead", s, api.OK, put(1, "a", "x"), put(1, "b", "y"), put(2, "a", "z"))
	wantBook(t, "another bound", opened(t, d, 50), want)
	s = opened(t, d, 1)
	wantBook(t, "over its bound", s, want)
	wantDo(t, "over its bound", s, api.OK, drop(1, "a"))
	wantBook(t, "dropped over its bound", s, want.with(drop(1, "a")))
	wantGet(t, "no such space", s, 3, "a", "", false)
}

// TestNoDisk: P7.1, R1, a nil disk, with any bound.
func TestNoDisk(t *testing.T) {
	wantFormat(t, "no disk", nil, api.ErrArg)
	for _, bound := range []int{-1, 0, 5, api.MaxStore, api.MaxStore + 1} {
		wantNone(t, "no disk", nil, bound, api.ErrArg)
	}
}

// TestSmallDisks: P7.1, disks of fewer sectors than Need, stopped or not: nothing is written.
func TestSmallDisks(t *testing.T) {
	for _, sectors := range []int{1, 9, 4096, api.Need - 1} {
		d := made(t, sectors)
		for range 2 {
			wantFormat(t, "a small disk", d, api.ErrArg)
			wantNone(t, "a small disk", d, 5, api.ErrArg)
			if d.Pending() != 0 || strings.Trim(image(d), "\x00") != "" {
				t.Fatalf("%d sectors: something was written", sectors)
			}
			d.Stop(0)
		}
	}
}

// TestLargeDisks: P7.1, disks of as many sectors as Need, and of more.
func TestLargeDisks(t *testing.T) {
	for _, sectors := range []int{api.Need, api.Need + 1, api.MaxSectors} {
		d := made(t, sectors)
		wantFormat(t, "a large disk", d, api.OK)
		s := opened(t, d, 5)
		wantBook(t, "a large disk", s, book{})
		wantDo(t, "a large disk", s, api.OK, put(7, "a", "1"))
		wantBook(t, "a large disk", opened(t, d, 5), book{{7, "a"}: "1"})
	}
}

// TestNoStore: P7.1, disks on which there is no tree: noughts, pages alone, drawn over. Format makes a store of them.
func TestNoStore(t *testing.T) {
	for what, lay := range map[string]func(*disk.Disk){
		"noughts": func(*disk.Disk) {},
		"pages":   func(d *disk.Disk) { pages.Format(d) },
		"pages of other bytes": func(d *disk.Disk) {
			pages.Format(d)
			s, _ := pages.Open(d)
			s.Put(pages.Sheet{N: 0, B: []byte(letters(api.Page))}, pages.Sheet{N: 1, B: []byte(letters(api.Page))})
		},
		"other bytes": func(d *disk.Disk) {
			for n := range api.Need {
				d.Write(n, []byte(letters(api.Sector)))
			}
			d.Flush()
		},
	} {
		d := made(t, api.Need)
		lay(d)
		was := image(d)
		for _, bound := range []int{0, 5, api.MaxStore} {
			wantNone(t, what, d, bound, api.ErrDisk)
		}
		if image(d) != was {
			t.Fatalf("%s: Open has written", what)
		}
		wantFormat(t, what, d, api.OK)
		wantBook(t, what+", formatted", opened(t, d, 5), book{})
	}
}

// TestBounds: P7.1, the bounds that Open takes, and those that it doesn't: these ahead of what the tree refuses, and nothing is written.
func TestBounds(t *testing.T) {
	d, s := fresh(t, 100)
	wantDo(t, "ahead", s, api.OK, put(1, "a", "x"))
	noughts := made(t, api.Need)
	for _, bound := range []int{-1, -2, -api.MaxStore, -1 << 62, -1 << 63, api.MaxStore + 1, api.MaxStore + 2, 1 << 31, 1 << 32, 1<<63 - 1} {
		for _, x := range []*disk.Disk{d, noughts, made(t, 1), nil} {
			wantNone(t, "a wrong bound", x, bound, api.ErrArg)
		}
	}
	b, _ := d.Read(0)
	d.Write(0, b)
	wantNone(t, "a write is pending", d, -1, api.ErrArg)
	if d.Pending() != 1 {
		t.Fatal("a refused Open has flushed")
	}
	for _, bound := range []int{0, 1, 2, 3, 100, api.MaxStore - 1, api.MaxStore} {
		wantBook(t, fmt.Sprint("bound ", bound), opened(t, d, bound), book{{1, "a"}: "x"})
	}
}

// TestFormatAnew: P7.1, a disk that had pairs has none behind Format, safe, and works.
func TestFormatAnew(t *testing.T) {
	d, s := fresh(t, api.MaxStore)
	for _, count := range []int{1, 10, 80} {
		var l []kv.Change
		for n := range count {
			l = append(l, put(byte(n*51), fmt.Sprint("key", n), letters(n*5)))
		}
		wantDo(t, "ahead", s, api.OK, l...)
		wantFormat(t, "anew", d, api.OK)
		if d.Pending() != 0 {
			t.Fatalf("%d writes are pending", d.Pending())
		}
		d.Crash(disk.Cut{})
		s = opened(t, d, api.MaxStore)
		wantBook(t, "formatted anew", s, book{})
		wantDo(t, "formatted anew", s, api.OK, put(0, "a", "1"))
		wantBook(t, "formatted anew", opened(t, d, 0), book{{0, "a"}: "1"})
	}
	pages.Format(d)
	wantNone(t, "pages formatted anew", d, 5, api.ErrDisk)
}

// TestStoppedDisk: P7.1, what the disk refuses, of Format and of Open.
func TestStoppedDisk(t *testing.T) {
	d := made(t, api.Need)
	d.Stop(0)
	wantFormat(t, "stopped", d, api.ErrDisk)
	d.Crash(disk.Cut{})
	wantNone(t, "stopped", d, 5, api.ErrDisk)
	d, s := fresh(t, 5)
	wantDo(t, "ahead", s, api.OK, put(9, "a", "1"))
	b, _ := d.Read(api.Need - 1)
	d.Write(api.Need-1, b)
	d.Stop(0)
	_, want := btree.Open(d)
	if s, why := kv.Open(d, 5); why != want || (s != nil) != (want == api.OK) {
		t.Fatalf("stopped, with a write pending: Open: %v, %v, want %v", s, why, want)
	}
	d.Crash(disk.Cut{})
	d.Stop(0)
	wantBook(t, "stopped", opened(t, d, 5), book{{9, "a"}: "1"})
}

// TestOpenChangesNothing: P7.1, Open leaves the disk as it is; all Stores of a disk tell the same, Used too, whichever of them did what.
func TestOpenChangesNothing(t *testing.T) {
	d, older := fresh(t, 3000)
	want := book{}
	for k := range 12 {
		was := image(d)
		newer := opened(t, d, 3000)
		if image(d) != was || d.Pending() != 0 {
			t.Fatal("Open has written")
		}
		c := put(byte(k), fmt.Sprint(k), letters(k*20))
		wantDo(t, "one Store", older, api.OK, c)
		want = want.with(c)
		wantBook(t, "one Store", older, want)
		wantBook(t, "another Store", newer, want)
		wantDo(t, "another Store", newer, api.ErrFull, put(99, "k", letters(400)), put(98, "k", letters(400)), put(97, "k", letters(400)), put(96, "k", letters(400)), put(95, "k", letters(400)), put(94, "k", letters(400)), put(93, "k", letters(400)), put(92, "k", letters(400)))
		older, newer = newer, older
	}
}
