package pages_test

import (
	"bytes"
	"fmt"
	"hash/fnv"
	"math"
	"strings"
	"testing"

	"deponent/api"
	"deponent/disk"
	"deponent/pages"
)

// full answers so many bytes c.
func full(c byte, n int) []byte { return bytes.Repeat([]byte{c}, n) }

// patterned answers a page no two sectors of which are alike, nor those of another seed.
func patterned(seed int) []byte {
	b := make([]byte, api.Page)
	x := uint32(seed)*2654435761 + 12345
	for i := range b {
		x = x*1664525 + 1013904223
		b[i] = byte(x >> 24)
	}
	return b
}

// sheet answers the sheet of page n that is patterned by that seed.
func sheet(n, seed int) pages.Sheet { return pages.Sheet{N: n, B: patterned(seed)} }

func made(t *testing.T, sectors int) *disk.Disk {
	t.Helper()
	d, why := disk.New(sectors)
	if why != api.OK {
		t.Fatalf("disk.New(%d): %v", sectors, why)
	}
	return d
}

func formatted(t *testing.T) *disk.Disk {
	t.Helper()
	d := made(t, api.Need)
	if why := pages.Format(d); why != api.OK {
		t.Fatalf("Format: %v", why)
	}
	return d
}

func opened(t *testing.T, d *disk.Disk) *pages.Store {
	t.Helper()
	s, why := pages.Open(d)
	if why != api.OK || s == nil {
		t.Fatalf("Open: %v, %v", s, why)
	}
	return s
}

func fresh(t *testing.T) (*disk.Disk, *pages.Store) {
	t.Helper()
	d := formatted(t)
	return d, opened(t, d)
}

func wantPut(t *testing.T, what string, s *pages.Store, want api.Errno, l ...pages.Sheet) {
	t.Helper()
	if why := s.Put(l...); why != want {
		t.Fatalf("%s: Put of %d sheets: %v, want %v", what, len(l), why, want)
	}
}

func wantPage(t *testing.T, what string, s *pages.Store, n int, want []byte) {
	t.Helper()
	if b, why := s.Read(n); why != api.OK || !bytes.Equal(b, want) {
		t.Fatalf("%s: page %d: %v, want %x, got %x", what, n, why, want[:4], b[:min(4, len(b))])
	}
}

func wantNone(t *testing.T, what string, d *disk.Disk, want api.Errno) {
	t.Helper()
	if s, why := pages.Open(d); why != want || s != nil {
		t.Fatalf("%s: Open: %v, %v, want %v", what, s, why, want)
	}
}

// book is what the pages are, as one tells them: those that are not noughts.
type book map[int]string

// with answers the book with those sheets.
func (b book) with(l ...pages.Sheet) book {
	c := book{}
	for n, x := range b {
		c[n] = x
	}
	for _, s := range l {
		delete(c, s.N)
		if x := told(s.B); x != "" {
			c[s.N] = x
		}
	}
	return c
}

func (b book) String() string {
	var out strings.Builder
	for n := range api.MaxPages {
		if b[n] != "" {
			fmt.Fprintf(&out, "%d:%s ", n, b[n])
		}
	}
	return out.String()
}

var noughts = make([]byte, api.Page)

// told answers a page in short; noughts are nothing.
func told(b []byte) string {
	if bytes.Equal(b, noughts) {
		return ""
	}
	h := fnv.New64a()
	h.Write(b)
	return fmt.Sprintf("%x.%x", b[:1], h.Sum(nil))
}

// bookOf reads all pages.
func bookOf(t *testing.T, s *pages.Store) book {
	t.Helper()
	c := book{}
	for n := range api.MaxPages {
		b, why := s.Read(n)
		if why != api.OK || len(b) != api.Page {
			t.Fatalf("page %d: %d bytes, %v", n, len(b), why)
		}
		if x := told(b); x != "" {
			c[n] = x
		}
	}
	return c
}

func wantBook(t *testing.T, what string, s *pages.Store, want book) {
	t.Helper()
	if got := bookOf(t, s); got.String() != want.String() {
		t.Fatalf("%s: the pages are\n%v, want\n%v", what, got, want)
	}
}

// image answers all that a disk shows.
func image(d *disk.Disk) string {
	var out strings.Builder
	for n := range d.Sectors() {
		b, _ := d.Read(n)
		out.Write(b)
	}
	return out.String()
}

// wrongPages are numbers of no page.
func wrongPages() []int {
	return []int{-1, -2, api.MaxPages, api.MaxPages + 1, 2 * api.MaxPages, 1 << 16, 1 << 32, math.MinInt, math.MinInt + 1, math.MaxInt}
}

// TestRuns: the chapter's section 'Runs'.
func TestRuns(t *testing.T) {
	d, s := fresh(t)
	ones := full(1, api.Page)
	wantPut(t, "ones", s, api.OK, pages.Sheet{N: 3, B: ones})
	wantPage(t, "opened again", opened(t, d), 3, ones)
	wantPage(t, "the one that put it", s, 3, ones)
	wantPut(t, "two of page 3", s, api.ErrArg, sheet(3, 1), sheet(3, 2))
	if b, why := s.Read(-1); why != api.ErrArg || b != nil {
		t.Fatalf("Read(-1): %v, %v", b, why)
	}
	for stop := range 60 {
		d, s := fresh(t)
		d.Stop(stop)
		why := s.Put(sheet(3, 1), sheet(7, 2))
		d.Crash(disk.Cut{})
		got, both := bookOf(t, opened(t, d)).String(), book{}.with(sheet(3, 1), sheet(7, 2)).String()
		if got != both && (got != "" || why == api.OK) {
			t.Fatalf("stopped after %d: %v: %s, want %s, or none", stop, why, got, both)
		}
	}
}

// TestExamples: the chapter's section 'Examples'.
func TestExamples(t *testing.T) {
	d, s := fresh(t)
	wantPut(t, "nothing", s, api.OK)
	for n := range api.MaxPages {
		wantPage(t, "never put", s, n, noughts)
	}
	wantBook(t, "opened again", opened(t, d), book{})
	wantNone(t, "an unformatted disk", made(t, api.Need), api.ErrDisk)
}

// TestNoDisk: P5.1, R1, a nil disk.
func TestNoDisk(t *testing.T) {
	if why := pages.Format(nil); why != api.ErrArg {
		t.Fatalf("Format of no disk: %v", why)
	}
	wantNone(t, "no disk", nil, api.ErrArg)
}

// TestSmallDisks: P5.1, disks of fewer sectors than Need, stopped or not: nothing is written.
func TestSmallDisks(t *testing.T) {
	for _, sectors := range []int{1, 2, 8, 4096, 6144, api.Need - 2, api.Need - 1} {
		d := made(t, sectors)
		for range 2 {
			if why := pages.Format(d); why != api.ErrArg {
				t.Fatalf("Format of %d sectors: %v", sectors, why)
			}
			wantNone(t, "a small disk", d, api.ErrArg)
			if d.Pending() != 0 || strings.Trim(image(d), "\x00") != "" {
				t.Fatalf("%d sectors: something was written", sectors)
			}
			d.Stop(0)
		}
	}
}

// TestPartOfAFormattedDisk: P5.1, the first sectors of a disk that has pages, but too few.
func TestPartOfAFormattedDisk(t *testing.T) {
	from := formatted(t)
	d := made(t, api.Need-1)
	for n := range api.Need - 1 {
		b, _ := from.Read(n)
		d.Write(n, b)
	}
	d.Flush()
	wantNone(t, "a part", d, api.ErrArg)
}

// TestLargeDisks: P5.1, the limit Need: disks of as many sectors and of more: the ones behind it are left alone.
func TestLargeDisks(t *testing.T) {
	for _, sectors := range []int{api.Need, api.Need + 1, api.Need + 7, api.MaxSectors} {
		d := made(t, sectors)
		for n := api.Need; n < sectors; n++ {
			d.Write(n, full(byte(n+1), api.Sector))
		}
		if why := pages.Format(d); why != api.OK {
			t.Fatalf("Format of %d sectors: %v", sectors, why)
		}
		s := opened(t, d)
		want := book{}
		for n := 0; n < api.MaxPages; n += api.MaxBatch {
			var l []pages.Sheet
			for k := range api.MaxBatch {
				l = append(l, sheet(n+k, n+k))
			}
			wantPut(t, "all pages", s, api.OK, l...)
			want = want.with(l...)
		}
		d.Crash(disk.Cut{})
		wantBook(t, "all pages", opened(t, d), want)
		for n := api.Need; n < sectors; n++ {
			if b, _ := d.Read(n); !bytes.Equal(b, full(byte(n+1), api.Sector)) {
				t.Fatalf("%d sectors: sector %d was written", sectors, n)
			}
		}
	}
}

// TestFormatIsSafe: P5.1, what Format acknowledged outlasts a crash.
func TestFormatIsSafe(t *testing.T) {
	d := formatted(t)
	if d.Pending() != 0 {
		t.Fatalf("%d writes are pending", d.Pending())
	}
	d.Crash(disk.Cut{})
	wantBook(t, "crashed", opened(t, d), book{})
}

// TestFormatAnew: P5.1, a disk that had pages has noughts behind Format, and works; a Store from ahead of it sees them too.
func TestFormatAnew(t *testing.T) {
	d, s := fresh(t)
	for round := range 3 {
		var l []pages.Sheet
		for k := range api.MaxBatch {
			l = append(l, sheet(2*k+round%2, k+round))
		}
		wantPut(t, "ahead", s, api.OK, l...)
		if why := pages.Format(d); why != api.OK {
			t.Fatalf("Format: %v", why)
		}
		d.Crash(disk.Cut{})
		wantBook(t, "formatted anew", opened(t, d), book{})
		wantBook(t, "formatted anew, an older Store", s, book{})
	}
}

// TestFormatIsRefused: P5.1, what the disk refuses.
func TestFormatIsRefused(t *testing.T) {
	d := made(t, api.Need)
	d.Stop(0)
	if why := pages.Format(d); why != api.ErrDisk {
		t.Fatalf("Format of a disk that is stopped: %v", why)
	}
	d.Crash(disk.Cut{})
	wantNone(t, "noughts", d, api.ErrDisk)
}

// TestOpenChangesNothing: P5.1, P5.3, Open leaves the disk as it is, and an older Store goes on.
func TestOpenChangesNothing(t *testing.T) {
	d, s := fresh(t)
	want := book{}
	for k := range 5 {
		was := image(d)
		opened(t, d)
		opened(t, d)
		if image(d) != was || d.Pending() != 0 {
			t.Fatal("Open has written")
		}
		wantPut(t, "an older Store", s, api.OK, sheet(k, k))
		want = want.with(sheet(k, k))
		wantBook(t, "an older Store", s, want)
	}
}

// TestReadOfNoPage: P5.2, R5.
func TestReadOfNoPage(t *testing.T) {
	d, s := fresh(t)
	wantPut(t, "ahead", s, api.OK, sheet(0, 1), sheet(api.MaxPages-1, 2))
	for range 2 {
		for _, n := range wrongPages() {
			if b, why := s.Read(n); why != api.ErrArg || b != nil {
				t.Fatalf("Read(%d): %d bytes, %v", n, len(b), why)
			}
		}
		d.Stop(0)
	}
}

// TestReadIsNeverStopped: P5.2, a Read of a disk that refuses.
func TestReadIsNeverStopped(t *testing.T) {
	d, s := fresh(t)
	wantPut(t, "ahead", s, api.OK, sheet(0, 1), sheet(api.MaxPages-1, 2))
	d.Stop(0)
	wantBook(t, "stopped", s, book{}.with(sheet(0, 1), sheet(api.MaxPages-1, 2)))
	d.Crash(disk.Cut{})
	wantBook(t, "crashed", s, book{}.with(sheet(0, 1), sheet(api.MaxPages-1, 2)))
}
