package wal_test

import (
	"bytes"
	"fmt"
	"math"
	"slices"
	"testing"

	"deponent/api"
	"deponent/disk"
	"deponent/wal"
)

// made answers a disk of so many sectors, all of noughts.
func made(t *testing.T, sectors int) *disk.Disk {
	t.Helper()
	d, why := disk.New(sectors)
	if why != api.OK {
		t.Fatalf("New(%d): %v", sectors, why)
	}
	return d
}

// formatted answers a disk with an empty log.
func formatted(t *testing.T, sectors, from, count int) *disk.Disk {
	t.Helper()
	d := made(t, sectors)
	if why := wal.Format(d, from, count); why != api.OK {
		t.Fatalf("Format(%d, %d): %v", from, count, why)
	}
	return d
}

// opened answers the log that lies there.
func opened(t *testing.T, d *disk.Disk, from, count int) *wal.Log {
	t.Helper()
	l, why := wal.Open(d, from, count)
	if why != api.OK || l == nil {
		t.Fatalf("Open(%d, %d): %v, %v", from, count, l, why)
	}
	return l
}

// fresh answers an empty log on all sectors of a disk of its own.
func fresh(t *testing.T, count int) (*disk.Disk, *wal.Log) {
	t.Helper()
	d := formatted(t, count, 0, count)
	return d, opened(t, d, 0, count)
}

// full answers so many bytes b.
func full(b byte, count int) []byte { return bytes.Repeat([]byte{b}, count) }

// told answers records as a text that no other records have.
func told(l [][]byte) string { return fmt.Sprintf("%q", l) }

func wantRecords(t *testing.T, what string, l *wal.Log, want ...string) {
	t.Helper()
	var list [][]byte
	for _, s := range want {
		list = append(list, []byte(s))
	}
	if got := told(l.Records()); got != told(list) {
		t.Fatalf("%s: records %s, want %s", what, got, told(list))
	}
}

func wantCommit(t *testing.T, what string, l *wal.Log, b []byte, want api.Errno) {
	t.Helper()
	if why := l.Commit(b); why != want {
		t.Fatalf("%s: Commit of %d bytes: %v, want %v", what, len(b), why, want)
	}
}

func wantClear(t *testing.T, what string, l *wal.Log, want api.Errno) {
	t.Helper()
	if why := l.Clear(); why != want {
		t.Fatalf("%s: Clear: %v, want %v", what, why, want)
	}
}

// wantNone tells that there is no log.
func wantNone(t *testing.T, what string, d *disk.Disk, from, count int, want api.Errno) {
	t.Helper()
	if l, why := wal.Open(d, from, count); why != want || l != nil {
		t.Fatalf("%s: Open(%d, %d): %v, %v, want none, %v", what, from, count, l, why, want)
	}
}

// image answers all that is read of a disk.
func image(d *disk.Disk) string {
	var b []byte
	for n := range d.Sectors() {
		s, _ := d.Read(n)
		b = append(b, s...)
	}
	return string(b)
}

// TestRuns: the chapter's section 'Runs'.
func TestRuns(t *testing.T) {
	d := formatted(t, 9, 0, 9)
	l := opened(t, d, 0, 9)
	wantRecords(t, "run 1, formatted", l)
	wantCommit(t, "run 1", l, []byte("a"), api.OK)
	wantRecords(t, "run 1", l, "a")
	wantRecords(t, "run 1, opened", opened(t, d, 0, 9), "a")

	d.Stop(0)
	wantCommit(t, "run 2", l, []byte("b"), api.ErrDisk)
	d.Crash(disk.Cut{})
	l = opened(t, d, 0, 9)
	wantRecords(t, "run 2", l, "a")

	wantCommit(t, "run 3", l, []byte{}, api.ErrArg)
	wantCommit(t, "run 3", l, make([]byte, l.Room()+1), api.ErrFull)

	wantNone(t, "run 4", made(t, 9), 0, 9, api.ErrDisk)
}

// TestExamples: the chapter's section 'Examples'.
func TestExamples(t *testing.T) {
	d, l := fresh(t, 9)
	wantCommit(t, "example 1", l, []byte("a"), api.OK)
	wantClear(t, "example 1", l, api.OK)
	wantRecords(t, "example 1, cleared", l)
	wantCommit(t, "example 1", l, []byte("b"), api.OK)
	wantRecords(t, "example 1", l, "b")
	wantRecords(t, "example 1, opened", opened(t, d, 0, 9), "b")

	d = formatted(t, 20, 3, 6)
	one := opened(t, d, 3, 6)
	wantCommit(t, "example 2", one, []byte("one"), api.OK)
	wantNone(t, "example 2, the other is not formatted", d, 9, 7, api.ErrDisk)
	if why := wal.Format(d, 9, 7); why != api.OK {
		t.Fatalf("example 2: %v", why)
	}
	two := opened(t, d, 9, 7)
	wantRecords(t, "example 2", two)
	wantCommit(t, "example 2", two, full('t', 200), api.OK)
	wantCommit(t, "example 2", one, full('o', 200), api.OK)
	wantRecords(t, "example 2", opened(t, d, 3, 6), "one", string(full('o', 200)))
	wantRecords(t, "example 2", opened(t, d, 9, 7), string(full('t', 200)))
	wantClear(t, "example 2", one, api.OK)
	wantRecords(t, "example 2, cleared", opened(t, d, 3, 6))
	wantRecords(t, "example 2, the other cleared", opened(t, d, 9, 7), string(full('t', 200)))

	wantCommit(t, "example 3", one, []byte("abc"), api.OK)
	one.Records()[0][1] = 'x'
	wantRecords(t, "example 3", one, "abc")
}

// TestNoSuchSectors: P4.1, Format and Open of no disk, and of sectors that it has not; nothing is changed.
func TestNoSuchSectors(t *testing.T) {
	wantNone(t, "no disk", nil, 0, 4, api.ErrArg)
	wantNone(t, "no disk, no sectors", nil, -1, 0, api.ErrArg)
	if why := wal.Format(nil, 0, 4); why != api.ErrArg {
		t.Errorf("no disk: Format: %v", why)
	}
	if why := wal.Format(&disk.Disk{}, 0, 4); why != api.ErrArg {
		t.Errorf("a disk of nothing: Format: %v", why)
	}
	d := formatted(t, 9, 2, 6)
	wantCommit(t, "ahead", opened(t, d, 2, 6), []byte("a"), api.OK)
	was := image(d)
	wrong := [][2]int{
		{-1, 4}, {-1, 9}, {-4, 8}, {math.MinInt, 4}, {math.MinInt, math.MaxInt}, {math.MinInt, math.MinInt},
		{0, 3}, {0, 2}, {0, 1}, {0, 0}, {0, -1}, {0, -4}, {0, math.MinInt}, {5, 3}, {8, 1},
		{0, 10}, {1, 9}, {2, 8}, {5, 5}, {6, 4}, {7, 4}, {8, 4}, {9, 4}, {10, 4}, {9, 0}, {math.MaxInt, 4},
		{0, math.MaxInt}, {4, math.MaxInt}, {math.MaxInt, math.MaxInt}, {math.MaxInt, math.MinInt}, {1 << 62, 1 << 62}, {9, -4}, {20, -15},
	}
	for _, w := range wrong {
		wantNone(t, "no such sectors", d, w[0], w[1], api.ErrArg)
		if why := wal.Format(d, w[0], w[1]); why != api.ErrArg {
			t.Errorf("Format(%d, %d): %v", w[0], w[1], why)
		}
	}
	if image(d) != was || d.Pending() != 0 {
		t.Error("a refused Format has written")
	}
	d.Stop(0)
	if why := wal.Format(d, 0, 3); why != api.ErrArg {
		t.Errorf("a stopped disk, and no such sectors: %v", why)
	}
}

// TestWhereLogsLie: P4.1, wherever a log lies, it is found there and writes to no other sector; so small a one as four sectors, so great a one as all of the greatest disk.
func TestWhereLogsLie(t *testing.T) {
	lies := [][3]int{{4, 0, 4}, {5, 1, 4}, {9, 0, 4}, {9, 5, 4}, {9, 2, 5}, {9, 0, 9}, {40, 3, 30}, {600, 250, 300}, {api.MaxSectors, api.MaxSectors - 4, 4}, {api.MaxSectors, 0, api.MaxSectors}}
	for _, c := range lies {
		d, from, count := made(t, c[0]), c[1], c[2]
		for n := range d.Sectors() {
			d.Write(n, full(byte(n%255+1), api.Sector))
		}
		d.Flush()
		what := fmt.Sprintf("%v", c)
		if why := wal.Format(d, from, count); why != api.OK {
			t.Fatalf("%s: Format: %v", what, why)
		}
		l := opened(t, d, from, count)
		wantRecords(t, what, l)
		wantCommit(t, what, l, []byte("a"), api.OK)
		b := full('b', l.Room())
		wantCommit(t, what, l, b, api.OK)
		wantRecords(t, what, opened(t, d, from, count), "a", string(b))
		wantClear(t, what, l, api.OK)
		wantCommit(t, what, l, []byte("c"), api.OK)
		wantRecords(t, what, opened(t, d, from, count), "c")
		for n := range d.Sectors() {
			s, _ := d.Read(n)
			if (n < from || n >= from+count) && !bytes.Equal(s, full(byte(n%255+1), api.Sector)) {
				t.Fatalf("%s: sector %d was written", what, n)
			}
		}
	}
}

// TestRefusedCommits: P4.2, of nothing, of nil, of too much: nothing is changed, on the disk or in the log, and ErrArg and ErrFull go ahead of what the disk refuses.
func TestRefusedCommits(t *testing.T) {
	d, l := fresh(t, 6)
	wantCommit(t, "ahead", l, []byte("a"), api.OK)
	was, room := image(d), l.Room()
	for _, stopped := range []bool{false, true} {
		if stopped {
			d.Stop(0)
		}
		wantCommit(t, "nil", l, nil, api.ErrArg)
		wantCommit(t, "nothing", l, []byte{}, api.ErrArg)
		wantCommit(t, "nothing with room behind it", l, make([]byte, 0, 9), api.ErrArg)
		wantCommit(t, "one too many", l, make([]byte, room+1), api.ErrFull)
		wantCommit(t, "far too many", l, make([]byte, 1<<20), api.ErrFull)
		if image(d) != was || d.Pending() != 0 || l.Room() != room {
			t.Fatal("a refused Commit has changed something")
		}
		wantRecords(t, "refused", l, "a")
		wantRecords(t, "refused, opened", opened(t, d, 0, 6), "a")
	}
}

// TestAllIsSafe: P4.1, P4.2, what was acknowledged outlasts a crash that keeps nothing, and nothing is pending.
func TestAllIsSafe(t *testing.T) {
	d := made(t, 9)
	crash := func(what string, want ...string) {
		t.Helper()
		if d.Pending() != 0 {
			t.Fatalf("%s: %d writes are pending", what, d.Pending())
		}
		d.Crash(disk.Cut{Torn: -1})
		wantRecords(t, what, opened(t, d, 0, 9), want...)
	}
	if why := wal.Format(d, 0, 9); why != api.OK {
		t.Fatalf("Format: %v", why)
	}
	crash("Format")
	l := opened(t, d, 0, 9)
	long := string(full('l', 3*api.Sector))
	wantCommit(t, "a", l, []byte("a"), api.OK)
	crash("a", "a")
	wantCommit(t, "long", l, []byte(long), api.OK)
	crash("long", "a", long)
	wantCommit(t, "b", l, []byte("b"), api.OK)
	crash("b", "a", long, "b")
	wantClear(t, "Clear", l, api.OK)
	crash("Clear")
	wantClear(t, "Clear of nothing", l, api.OK)
	crash("Clear of nothing")
	wantCommit(t, "c", l, []byte("c"), api.OK)
	crash("c", "c")
	if why := wal.Format(d, 0, 9); why != api.OK {
		t.Fatalf("Format anew: %v", why)
	}
	crash("Format anew")
}

// TestStoppedLog: P4.3, a log that the disk refused tells what was acknowledged, before the crash and after it, whatever else is asked of it; Open goes on a stopped disk.
func TestStoppedLog(t *testing.T) {
	calls := map[string]func(l *wal.Log) api.Errno{
		"Commit": func(l *wal.Log) api.Errno { return l.Commit([]byte("c")) },
		"Clear":  func(l *wal.Log) api.Errno { return l.Clear() },
	}
	long := string(full('b', 300))
	for name, call := range calls {
		for stop := 0; ; stop++ {
			d, l := fresh(t, 9)
			wantCommit(t, "ahead", l, []byte("a"), api.OK)
			wantCommit(t, "ahead", l, []byte(long), api.OK)
			d.Stop(stop)
			what := fmt.Sprintf("%s, stopped after %d", name, stop)
			if why := call(l); why == api.OK && stop > 0 {
				break
			} else if why != api.ErrDisk {
				t.Fatalf("%s: %v", what, why)
			}
			opened(t, d, 0, 9)
			wantRecords(t, what, l, "a", long)
			d.Crash(disk.Cut{Keep: slices.Repeat([]bool{true}, 9)})
			wantRecords(t, what+", crashed", l, "a", long)
			was := image(d)
			wantCommit(t, what+", crashed", l, []byte("d"), api.ErrDisk)
			wantClear(t, what+", crashed", l, api.ErrDisk)
			if image(d) != was {
				t.Fatalf("%s: it has written behind the crash", what)
			}
			m := opened(t, d, 0, 9)
			wantClear(t, what, m, api.OK)
			wantCommit(t, what, m, full('e', 400), api.OK)
			wantRecords(t, what+", written over", l, "a", long)
			if l.Room() < 0 {
				t.Fatalf("%s: room %d", what, l.Room())
			}
		}
	}
}

// TestFormatStopped: P4.1, Format answers what the disk refuses.
func TestFormatStopped(t *testing.T) {
	d := made(t, 9)
	d.Stop(0)
	if why := wal.Format(d, 0, 9); why != api.ErrDisk {
		t.Errorf("Format: %v", why)
	}
	d.Crash(disk.Cut{})
	wantNone(t, "a Format that was stopped", d, 0, 9, api.ErrDisk)
}
