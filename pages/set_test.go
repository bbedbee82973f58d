package pages

import (
	"bytes"
	"slices"
	"testing"

	"deponent/api"
	"deponent/disk"
	"deponent/wal"
)

// TestSets: a set has the pages of its sheets, in order, up to MaxBatch of them, and is read from the log as it was.
func TestSets(t *testing.T) {
	for _, l := range [][]int{{0}, {511}, {0, 511}, {7, 8, 9}, {255, 256, 300}} {
		var sheets []Sheet
		for _, n := range l {
			sheets = append(sheets, Sheet{N: n})
		}
		s := setOf(sheets)
		if !slices.Equal(s.pages(), l) || s.size() != len(l) {
			t.Fatalf("%v: %v", l, s.pages())
		}
		for k, n := range l {
			if !s.has(n) || s.rank(n) != k {
				t.Fatalf("%v: page %d: %d", l, n, s.rank(n))
			}
		}
		if got, ok := setIn([][]byte{s[:]}); !ok || got != s {
			t.Fatalf("%v: read as %v", l, got.pages())
		}
	}
	if s, ok := setIn(nil); !ok || s != (set{}) {
		t.Fatalf("no records: %v, %v", s, ok)
	}
}

// TestLogsOfOthers: P5.1, a log that tells what no Put has told: there are no pages.
func TestLogsOfOthers(t *testing.T) {
	half := append(bytes.Repeat([]byte{255}, 32), make([]byte, 32)...)
	more := bytes.Clone(half)
	more[40] = 1
	wrong := [][][]byte{
		{make([]byte, 64)},
		{bytes.Repeat([]byte{255}, 64)},
		{more},
		{half[:63]},
		{append(bytes.Clone(half), 1)},
		{{1}},
		{half, half},
		{half, {1}},
	}
	for i, records := range append(wrong, [][]byte{half}) {
		d, _ := disk.New(api.Need)
		Format(d)
		if why := wal.Format(d, logStart, 5); why != api.OK {
			t.Fatal(why)
		}
		if _, why := Open(d); why != api.ErrDisk {
			t.Fatalf("a log of other sectors: %v", why)
		}
		if _, ok := setIn(records); ok != (i == len(wrong)) {
			t.Fatalf("%x: %v", records, ok)
		}
		if len(records) > 1 || len(records[0]) > 64 {
			continue
		}
		Format(d)
		l, _ := wal.Open(d, logStart, logCount)
		if why := l.Commit(records[0]); why != api.OK {
			t.Fatal(why)
		}
		s, why := Open(d)
		if i < len(wrong) && (why != api.ErrDisk || s != nil) || i == len(wrong) && why != api.OK {
			t.Fatalf("%x: %v", records, why)
		}
	}
}

// TestRoomForASet: P5.2, the smallest log that there may be has surely room for a set, by what wal promises of it.
func TestRoomForASet(t *testing.T) {
	if len(set{}) > (logCount-3)*api.Sector/2 {
		t.Fatalf("a set has %d bytes", len(set{}))
	}
	if end := spare(api.MaxBatch); end > api.Need {
		t.Fatalf("the pages end at sector %d", end)
	}
	if len(mark) != api.Sector {
		t.Fatalf("the mark has %d bytes", len(mark))
	}
}
