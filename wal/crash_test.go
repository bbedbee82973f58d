package wal_test

import (
	"fmt"
	"math/rand"
	"slices"
	"testing"

	"deponent/api"
	"deponent/disk"
	"deponent/wal"
)

// Where the logs of this file lie, with a sector ahead of them and two behind.
const (
	crashFrom  = 1
	crashCount = 8
	crashAll   = 11
)

// call is one that may be crashed.
type call struct {
	name string
	do   func(d *disk.Disk, l *wal.Log) api.Errno
	done func(records [][]byte) [][]byte
}

func commits(b []byte) call {
	return call{
		fmt.Sprintf("Commit of %d bytes", len(b)),
		func(_ *disk.Disk, l *wal.Log) api.Errno { return l.Commit(b) },
		func(r [][]byte) [][]byte { return append(slices.Clone(r), b) },
	}
}

func clears() call {
	return call{
		"Clear",
		func(_ *disk.Disk, l *wal.Log) api.Errno { return l.Clear() },
		func([][]byte) [][]byte { return nil },
	}
}

func formats() call {
	return call{
		"Format",
		func(d *disk.Disk, _ *wal.Log) api.Errno { return wal.Format(d, crashFrom, crashCount) },
		func([][]byte) [][]byte { return nil },
	}
}

// none is what was found where there is no log.
const none = "none"

// found answers what Open finds, and tells that it changes nothing, be it crashed or not.
func found(t *testing.T, what string, d *disk.Disk) string {
	t.Helper()
	was := image(d)
	got := ""
	for round := range 2 {
		now := none
		if l, why := wal.Open(d, crashFrom, crashCount); why == api.OK {
			now = told(l.Records())
		} else if why != api.ErrDisk || l != nil {
			t.Fatalf("%s: Open: %v, %v", what, l, why)
		}
		if round > 0 && now != got {
			t.Fatalf("%s: opened again: %s, want %s", what, now, got)
		}
		got = now
		d.Crash(disk.Cut{Keep: []bool{round == 0, true}, Torn: 0, Bytes: 50})
		if image(d) != was {
			t.Fatalf("%s: Open has changed the disk", what)
		}
	}
	return got
}

// cutsOf answers the choices of what is kept of so many writes (of more than three, the ones that go by threes), each with each of the others torn at every step-th byte, and at the first and the last one.
func cutsOf(pending, step int) []disk.Cut {
	var keeps [][]bool
	for choice := range 1 << min(pending, 3) {
		keep := make([]bool, pending)
		for k := range pending {
			keep[k] = choice>>(k%3)&1 == 1
		}
		keeps = append(keeps, keep)
	}
	var l []disk.Cut
	for _, keep := range keeps {
		l = append(l, disk.Cut{Keep: keep, Torn: -1})
		for k := range pending {
			for bytes := 0; bytes <= api.Sector && !keep[k]; bytes++ {
				if bytes%step == 0 || bytes == 1 || bytes == api.Sector-1 {
					l = append(l, disk.Cut{Keep: keep, Torn: k, Bytes: bytes})
				}
			}
		}
	}
	return l
}

// crashed answers the disks that a crash of c by those cuts can leave, one of each kind, and the one on which c was done, and tells of each that there is found on it what must be.
func crashed(t *testing.T, what string, from *disk.Disk, c call, step int) []*disk.Disk {
	t.Helper()
	seen := map[string]bool{}
	var left []*disk.Disk
	for stop := 0; ; stop++ {
		d := from.Copy()
		l, _ := wal.Open(d, crashFrom, crashCount)
		before, after := none, told(nil)
		if l != nil {
			before, after = told(l.Records()), told(c.done(l.Records()))
		}
		d.Stop(stop)
		why := c.do(d, l)
		at := fmt.Sprintf("%s, %s stopped after %d", what, c.name, stop)
		if why == api.OK {
			d.Crash(disk.Cut{Torn: -1})
			if got := found(t, at, d); got != after {
				t.Fatalf("%s: acknowledged: %s, want %s", at, got, after)
			}
			return append(left, d)
		}
		if why != api.ErrDisk {
			t.Fatalf("%s: %v", at, why)
		}
		for _, cut := range cutsOf(d.Pending(), step) {
			e := d.Copy()
			e.Crash(cut)
			if key := image(e); seen[key] {
				continue
			} else {
				seen[key] = true
			}
			got := found(t, at, e)
			if got != before && got != after && (c.name != "Format" || got != none) {
				t.Fatalf("%s, %v: %s, want %s or %s", at, cut, got, before, after)
			}
			wantBeside(t, at, e)
			left = append(left, e)
		}
	}
}

// crashDisk answers a disk with the sectors beside the log marked.
func crashDisk(t *testing.T) *disk.Disk {
	t.Helper()
	d := made(t, crashAll)
	for n := range crashAll {
		if n < crashFrom || n >= crashFrom+crashCount {
			d.Write(n, full(byte(n+1), api.Sector))
		}
	}
	d.Flush()
	return d
}

// wantBeside tells that the sectors beside the log are as they were.
func wantBeside(t *testing.T, what string, d *disk.Disk) {
	t.Helper()
	for n := range crashAll {
		if s, _ := d.Read(n); (n < crashFrom || n >= crashFrom+crashCount) && string(s) != string(full(byte(n+1), api.Sector)) {
			t.Fatalf("%s: sector %d was written", what, n)
		}
	}
}

// crashLog answers a disk with a log of those records.
func crashLog(t *testing.T, records ...[]byte) *disk.Disk {
	t.Helper()
	d := crashDisk(t)
	if why := wal.Format(d, crashFrom, crashCount); why != api.OK {
		t.Fatalf("Format: %v", why)
	}
	l := opened(t, d, crashFrom, crashCount)
	for _, b := range records {
		wantCommit(t, "ahead", l, b, api.OK)
	}
	return d
}

// start is a disk on which calls begin.
type start struct {
	name string
	disk *disk.Disk
}

func starts(t *testing.T) []start {
	t.Helper()
	cleared := crashLog(t, patterned(300, 8), patterned(40, 9))
	wantClear(t, "ahead", opened(t, cleared, crashFrom, crashCount), api.OK)
	return []start{
		{"empty", crashLog(t)},
		{"one record", crashLog(t, []byte("a"))},
		{"several records", crashLog(t, []byte("a"), patterned(70, 1), patterned(50, 2))},
		{"cleared", cleared},
	}
}

// calls are those that are crashed: records within a sector, of the same text as stood there, over the bounds of sectors.
func calls() []call {
	return []call{commits([]byte("b")), commits(patterned(100, 8)), commits(patterned(250, 8)), clears(), formats()}
}

// TestCrashOfOneCall: P4.3, each call, stopped after every number of Writes and Flushes, crashed in every way.
func TestCrashOfOneCall(t *testing.T) {
	for _, s := range starts(t) {
		for _, c := range calls() {
			crashed(t, s.name, s.disk, c, 1)
		}
	}
}

// TestCrashOfTwoCalls: P4.3, and a second call on whatever the crash of the first one left, crashed likewise.
func TestCrashOfTwoCalls(t *testing.T) {
	r := rand.New(rand.NewSource(4))
	for _, s := range starts(t) {
		for _, first := range calls() {
			for _, d := range some(r, crashed(t, s.name, s.disk, first, 1), 12) {
				for _, second := range calls() {
					if found(t, "between", d) == none && second.name != "Format" {
						continue
					}
					crashed(t, s.name+", "+first.name+" crashed", d, second, 31)
				}
			}
		}
	}
}

// some answers so many of the disks at most, the last one among them.
func some(r *rand.Rand, l []*disk.Disk, most int) []*disk.Disk {
	last := l[len(l)-1]
	r.Shuffle(len(l), func(i, k int) { l[i], l[k] = l[k], l[i] })
	return append(slices.Clip(l[:min(most, len(l))]), last)
}

// TestCrashOfTwoSmallCalls: P4.3, two calls that write little, with all that each crash can leave of the first.
func TestCrashOfTwoSmallCalls(t *testing.T) {
	small := []call{commits([]byte("b")), clears()}
	for _, s := range starts(t)[:2] {
		for _, first := range small {
			for _, d := range crashed(t, s.name, s.disk, first, 1) {
				for _, second := range small {
					crashed(t, s.name+", "+first.name+" crashed", d, second, 3)
				}
			}
		}
	}
}

// TestCrashOfFormat: P4.3, a Format over noughts, over what something else wrote, over a log of other sectors.
func TestCrashOfFormat(t *testing.T) {
	r := rand.New(rand.NewSource(5))
	crashed(t, "noughts", crashDisk(t), formats(), 1)
	d := crashDisk(t)
	for n := range crashCount {
		d.Write(crashFrom+n, drawn(r))
	}
	d.Flush()
	crashed(t, "drawn bytes", d, formats(), 1)
	d = crashDisk(t)
	wal.Format(d, crashFrom+1, crashCount-1)
	wantCommit(t, "ahead", opened(t, d, crashFrom+1, crashCount-1), patterned(200, 1), api.OK)
	crashed(t, "another log", d, formats(), 1)
}

// TestGoingOnWithoutACrash: P4.3, a later Stop lets the disk go on with writes pending of a call that it refused: from there on, too, what was acknowledged is there.
func TestGoingOnWithoutACrash(t *testing.T) {
	for _, s := range starts(t) {
		for _, first := range calls()[:4] {
			for stop := range 9 {
				d := s.disk.Copy()
				d.Stop(stop)
				l := opened(t, d, crashFrom, crashCount)
				before, after := told(l.Records()), told(first.done(l.Records()))
				if first.do(d, l) == api.OK {
					continue
				}
				d.Stop(1000)
				what := fmt.Sprintf("%s, %s stopped after %d", s.name, first.name, stop)
				m := opened(t, d, crashFrom, crashCount)
				got := told(m.Records())
				if got != before && got != after {
					t.Fatalf("%s: %s, want %s or %s", what, got, before, after)
				}
				want := told(append(m.Records(), []byte("z")))
				wantCommit(t, what, m, []byte("z"), api.OK)
				d.Crash(disk.Cut{Torn: -1})
				if got := found(t, what, d); got != want {
					t.Fatalf("%s: %s, want %s", what, got, want)
				}
			}
		}
	}
}
