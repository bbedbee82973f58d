package pages_test

import (
	"fmt"
	"math/rand"
	"testing"

	"deponent/api"
	"deponent/disk"
	"deponent/pages"
	"deponent/wal"
)

// cover writes b to all sectors.
func cover(d *disk.Disk, b []byte) {
	for n := range d.Sectors() {
		d.Write(n, b)
	}
	d.Flush()
}

func drawn(r *rand.Rand) []byte {
	b := make([]byte, api.Sector)
	r.Read(b)
	return b
}

// wantFormatMends tells that Format works on d, whatever is there.
func wantFormatMends(t *testing.T, what string, d *disk.Disk) {
	t.Helper()
	if why := pages.Format(d); why != api.OK {
		t.Fatalf("%s: Format: %v", what, why)
	}
	s := opened(t, d)
	wantBook(t, what+", formatted", s, book{})
	wantPut(t, what+", formatted", s, api.OK, sheet(3, 1))
	wantBook(t, what+", formatted", opened(t, d), book{}.with(sheet(3, 1)))
}

// TestWhatSomethingElseWrote: P5.1, a disk all of one byte, of drawn ones, or of a text has no pages, and can be formatted.
func TestWhatSomethingElseWrote(t *testing.T) {
	r := rand.New(rand.NewSource(1))
	d := made(t, api.Need)
	for c := 0; c < 256; c += 15 {
		cover(d, full(byte(c), api.Sector))
		wantNone(t, "one byte", d, api.ErrDisk)
		wantFormatMends(t, "one byte", d)
	}
	for range 5 {
		for n := range api.Need {
			d.Write(n, drawn(r))
		}
		wantNone(t, "drawn bytes", d, api.ErrDisk)
		wantFormatMends(t, "drawn bytes", d)
	}
	cover(d, []byte("pages that are put together, for sixty-four bytes on end, well: pages that are put together, for sixty-four bytes on end, well: "))
	wantNone(t, "a text", d, api.ErrDisk)
}

// TestNoughtsOverPages: P5.1, noughts over a disk that had pages.
func TestNoughtsOverPages(t *testing.T) {
	d, s := fresh(t)
	wantPut(t, "ahead", s, api.OK, sheet(3, 1))
	cover(d, make([]byte, api.Sector))
	wantNone(t, "noughts", d, api.ErrDisk)
	if b, why := s.Read(3); why != api.ErrDisk || b != nil {
		t.Fatalf("Read of a page where there are none: %d bytes, %v", len(b), why)
	}
	if why := s.Put(sheet(3, 1)); why != api.ErrDisk {
		t.Fatalf("Put where there are no pages: %v", why)
	}
	wantNone(t, "noughts, behind a Put", d, api.ErrDisk)
}

// TestLogsAreNoPages: P5.1, logs that something else keeps on the disk are no pages.
func TestLogsAreNoPages(t *testing.T) {
	for from := range 12 {
		for _, count := range []int{4, 5, 8, 16, 1536, 3584} {
			d := made(t, api.Need)
			wal.Format(d, from, count)
			wantNone(t, fmt.Sprintf("a log of %d sectors from %d on", count, from), d, api.ErrDisk)
			if l, why := wal.Open(d, from, count); why != api.OK || l.Commit([]byte("a")) != api.OK {
				t.Fatalf("a log of %d sectors from %d on: %v", count, from, why)
			}
			wantNone(t, fmt.Sprintf("a log of %d sectors from %d on", count, from), d, api.ErrDisk)
		}
	}
}

// TestPagesElsewhere: P5.1, what was brought to other sectors of a disk is no pages there.
func TestPagesElsewhere(t *testing.T) {
	from, s := fresh(t)
	wantPut(t, "ahead", s, api.OK, sheet(3, 1))
	for _, by := range []int{1, 2, 8, 100} {
		d := made(t, api.Need)
		for n := range api.Need - by {
			b, _ := from.Read(n)
			d.Write(n+by, b)
		}
		d.Flush()
		wantNone(t, "elsewhere", d, api.ErrDisk)
	}
}

// TestAnyOneSector: R1, P5.1, where something else has written to one sector, there are no pages, or there are; each call ends, and Format mends it.
func TestAnyOneSector(t *testing.T) {
	r := rand.New(rand.NewSource(2))
	base := away(t)
	nones := 0
	for n := 0; n < api.Need; n++ {
		if n > 60 {
			n += 150
		}
		for kind := range 4 {
			d := base.Copy()
			d.Write(n, [][]byte{drawn(r), make([]byte, api.Sector), full(255, api.Sector), full(1, api.Sector)}[kind])
			d.Flush()
			what := fmt.Sprintf("sector %d, kind %d", n, kind)
			s, why := pages.Open(d)
			switch why {
			case api.OK:
				bookOf(t, s)
				wantPut(t, what, s, api.OK, sheet(5, 9), sheet(6, 9))
				wantPage(t, what, s, 5, patterned(9))
			case api.ErrDisk:
				nones++
			default:
				t.Fatalf("%s: %v", what, why)
			}
			if n < 10 {
				wantFormatMends(t, what, d)
			}
		}
	}
	if nones == 0 {
		t.Fatal("something else has written everywhere, and there were pages each time")
	}
}

// TestManySectors: R1, where something else has written to many sectors, each call ends.
func TestManySectors(t *testing.T) {
	r := rand.New(rand.NewSource(3))
	base := away(t)
	for range 40 {
		d := base.Copy()
		s := opened(t, d)
		for range 1 + r.Intn(20) {
			n, from := r.Intn(api.Need), r.Intn(api.Need)
			if r.Intn(2) == 0 {
				n, from = r.Intn(12), r.Intn(12)
			}
			b, _ := d.Read(from)
			b[r.Intn(len(b))] ^= byte(r.Intn(2))
			d.Write(n, b)
		}
		for n := range 20 {
			s.Read(n)
		}
		s.Put(sheet(1, 1), sheet(8, 2))
		if x, why := pages.Open(d); why == api.OK {
			bookOf(t, x)
			wantPut(t, "many sectors", x, api.OK, sheet(5, 9))
		}
		wantFormatMends(t, "many sectors", d)
	}
}
