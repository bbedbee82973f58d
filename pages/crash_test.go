package pages_test

import (
	"fmt"
	"slices"
	"testing"

	"deponent/api"
	"deponent/disk"
	"deponent/pages"
)

// call is one that may be crashed.
type call struct {
	name string
	do   func(d *disk.Disk, s *pages.Store) api.Errno
	done func(b book) book
}

func puts(l ...pages.Sheet) call {
	return call{
		fmt.Sprintf("Put of %d sheets", len(l)),
		func(_ *disk.Disk, s *pages.Store) api.Errno { return s.Put(l...) },
		func(b book) book { return b.with(l...) },
	}
}

func formats() call {
	return call{
		"Format",
		func(d *disk.Disk, _ *pages.Store) api.Errno { return pages.Format(d) },
		func(book) book { return book{} },
	}
}

// none is what was found where there are no pages.
const none = "none"

// found answers what Open finds, and tells that an Open changes nothing, be it stopped, crashed, or neither.
func found(t *testing.T, what string, d *disk.Disk) string {
	t.Helper()
	first, last, got := "", "", none
	for _, stop := range []int{0, 1, 2, 3, 1000} {
		d.Stop(stop)
		s, why := pages.Open(d)
		switch {
		case why == api.OK && stop == 0:
			first = some(t, s)
		case why == api.OK && stop == 1000:
			last, got = some(t, s), bookOf(t, s).String()
		case why != api.OK && why != api.ErrDisk || (s == nil) != (why != api.OK):
			t.Fatalf("%s: Open: %v, %v", what, s, why)
		}
		d.Crash(disk.Cut{Keep: []bool{stop%2 == 0, true}, Torn: 0, Bytes: 50})
	}
	if first != "" && first != last {
		t.Fatalf("%s: opened again: %s, want %s", what, last, first)
	}
	return got
}

// some tells those pages that the calls of this file put.
func some(t *testing.T, s *pages.Store) string {
	t.Helper()
	out := ""
	for _, n := range []int{0, 1, 2, 300, 511} {
		b, why := s.Read(n)
		out += fmt.Sprintf("%d:%s %v ", n, told(b), why)
	}
	return out
}

// cutsOf answers choices of what is kept of so many writes, some of them with one torn: of one write, at every fifth byte, and at the ends.
func cutsOf(pending, from int) []disk.Cut {
	var l []disk.Cut
	for choice := range 8 {
		keep := make([]bool, pending)
		for k := range pending {
			keep[k] = []bool{false, true, k%2 == 0, k%2 == 1, k < pending/2, k >= pending/2, k > 0, k < pending-1}[choice]
		}
		l = append(l, disk.Cut{Keep: keep, Torn: -1})
		for at, k := range []int{0, pending / 2, pending - 1} {
			if pending > 1 && !keep[k] && (at+choice+from)%3 == 0 {
				l = append(l, disk.Cut{Keep: keep, Torn: k, Bytes: 1 + (choice*3+at)*pending%(api.Sector-1)})
			}
		}
		if pending < 2 && choice == 1 {
			break
		}
	}
	for bytes := 0; pending == 1 && bytes <= api.Sector; bytes++ {
		if bytes%5 == from%5 || bytes < 2 || bytes > api.Sector-2 {
			l = append(l, disk.Cut{Torn: 0, Bytes: bytes})
		}
	}
	return l
}

// crashed stops c after every number of Writes and Flushes, crashes it by those cuts, and tells that there is found what must be, and that a Put works on it. It answers some of the disks that are left.
func crashed(t *testing.T, what string, from *disk.Disk, c call) []*disk.Disk {
	t.Helper()
	before := found(t, what, from.Copy())
	var left []*disk.Disk
	for stop := 0; ; stop++ {
		d := from.Copy()
		s, _ := pages.Open(d)
		after := c.done(book{}).String()
		if s != nil {
			after = c.done(bookOf(t, s)).String()
		}
		d.Stop(stop)
		why := c.do(d, s)
		at := fmt.Sprintf("%s, %s stopped after %d", what, c.name, stop)
		if why == api.OK {
			d.Crash(disk.Cut{Torn: -1})
			if got := found(t, at, d); got != after {
				t.Fatalf("%s: acknowledged: %s, want %s", at, got, after)
			}
			return append(left, d)
		}
		if why != api.ErrDisk {
			t.Fatalf("%s: %v", at, why)
		}
		allowed := []string{before, after}
		if c.name == "Format" {
			allowed = append(allowed, none)
		}
		for i, cut := range cutsOf(d.Pending(), stop) {
			e := d.Copy()
			e.Crash(cut)
			got := found(t, at, e)
			if !slices.Contains(allowed, got) {
				t.Fatalf("%s, %v: %s, want one of %q", at, cut, got, allowed)
			}
			if i%8 == stop%8 {
				left = append(left, e.Copy())
				goesOn(t, at, e, got)
			}
		}
	}
}

// goesOn tells that what is left works.
func goesOn(t *testing.T, what string, d *disk.Disk, got string) {
	t.Helper()
	if got == none {
		if why := pages.Format(d); why != api.OK {
			t.Fatalf("%s: Format behind it: %v", what, why)
		}
	}
	s := opened(t, d)
	want := bookOf(t, s).with(sheet(1, 77), sheet(300, 78))
	wantPut(t, what+", behind it", s, api.OK, sheet(300, 78), sheet(1, 77))
	wantBook(t, what+", behind it", s, want)
	d.Crash(disk.Cut{Torn: -1})
	wantBook(t, what+", behind it, crashed", opened(t, d), want)
}

// start is a disk on which calls begin.
type start struct {
	name string
	disk *disk.Disk
}

func starts(t *testing.T) []start {
	t.Helper()
	d, s := fresh(t)
	wantPut(t, "ahead", s, api.OK, sheets(1, 0, 1, 2, 300, 511)...)
	return []start{{"noughts", formatted(t)}, {"some pages", d}, {"a Put that is done, but has not come home", away(t)}}
}

// away answers a disk of which a crash has left a Put of the pages 1 and 2 that is done, as early as it may be.
func away(t *testing.T) *disk.Disk {
	t.Helper()
	for stop := range 100 {
		d, s := fresh(t)
		wantPut(t, "ahead", s, api.OK, sheets(1, 0, 1, 2, 300, 511)...)
		d.Stop(stop)
		s.Put(sheets(40, 2, 1)...)
		d.Crash(disk.Cut{})
		if b, _ := opened(t, d).Read(1); string(b) == string(patterned(41)) {
			return d
		}
	}
	t.Fatal("a Put is never done")
	return nil
}

// TestCrashOfPut: P5.3, W2, a Put, stopped after every number of Writes and Flushes, and crashed.
func TestCrashOfPut(t *testing.T) {
	for _, s := range starts(t) {
		for _, c := range []call{puts(sheet(1, 50)), puts(sheet(511, 51), sheet(2, 52)), puts(pages.Sheet{N: 1, B: noughts}, sheet(0, 1))} {
			t.Run(s.name+", "+c.name, func(t *testing.T) {
				t.Parallel()
				crashed(t, s.name, s.disk, c)
			})
		}
	}
}

// TestCrashOfPutOfMany: P5.3, W2, a Put of MaxBatch sheets, stopped at some places, the first and the last ones among them.
func TestCrashOfPutOfMany(t *testing.T) {
	base, s := fresh(t)
	old, fresh := sheets(1, upTo(0, api.MaxBatch)...), sheets(1000, upTo(100, api.MaxBatch)...)
	wantPut(t, "ahead", s, api.OK, old...)
	before := book{}.with(old...)
	after := before.with(fresh...)
	tried := base.Copy()
	tried.Stop(1 << 20)
	wantPut(t, "not crashed", opened(t, tried), api.OK, fresh...)
	for stop := 0; stop < 1<<20; stop++ {
		if stop > 10 && stop < 2040 || stop > 2065 && stop < 4090 {
			stop += 300
		}
		d := base.Copy()
		d.Stop(stop)
		if opened(t, d).Put(fresh...) == api.OK {
			break
		}
		for i, cut := range cutsOf(d.Pending(), stop) {
			if i%3 != stop%3 {
				continue
			}
			e := d.Copy()
			e.Crash(cut)
			if got := found(t, "many", e); got != before.String() && got != after.String() {
				t.Fatalf("stopped after %d: %s", stop, got)
			}
		}
	}
}

// TestCrashOfFormat: P5.3, a Format over noughts, over pages, over what something else wrote.
func TestCrashOfFormat(t *testing.T) {
	alien := made(t, api.Need)
	for n := 0; n < api.Need; n += 1 + n%300 {
		alien.Write(n, full(byte(n+1), api.Sector))
	}
	alien.Flush()
	l := append(starts(t), start{"an unformatted disk", made(t, api.Need)}, start{"something else", alien})
	for _, s := range l {
		t.Run(s.name, func(t *testing.T) {
			t.Parallel()
			crashed(t, s.name, s.disk, formats())
		})
	}
}

// TestCrashOfTwoCalls: P5.3, W2, and a second call on what the crash of the first one left, crashed likewise.
func TestCrashOfTwoCalls(t *testing.T) {
	start := starts(t)[1]
	for k, first := range []call{puts(sheet(2, 60)), formats()} {
		t.Run(first.name, func(t *testing.T) {
			left := crashed(t, start.name, start.disk, first)
			for i := k; i < len(left); i += len(left)/5 + 1 {
				second := puts(sheet(2, 61+i))
				if s, _ := pages.Open(left[i]); s == nil {
					second = formats()
				}
				t.Run(second.name, func(t *testing.T) {
					t.Parallel()
					crashed(t, start.name+", "+first.name+" crashed", left[i], second)
				})
			}
		})
	}
}
