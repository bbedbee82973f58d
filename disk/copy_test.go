package disk_test

import (
	"fmt"
	"testing"

	"deponent/api"
	"deponent/disk"
)

// TestCopyIsLike: P3.4, a copy has the sectors, the pending writes and what is safe.
func TestCopyIsLike(t *testing.T) {
	for _, c := range cuts {
		d := pended(t).Copy().Copy()
		if d.Sectors() != 4 {
			t.Fatalf("%d sectors", d.Sectors())
		}
		wantPending(t, "a copy", d, 4)
		for n, b := range []byte{12, 13, 14, 4} {
			wantSector(t, "a copy", d, n, full(b))
		}
		d.Crash(c.cut)
		for n, want := range c.want {
			wantSector(t, "a copy, "+c.what, d, n, want)
		}
	}
}

// TestCopyIsStopped: P3.4, a copy stops when the disk would have, and neither counts for the other.
func TestCopyIsStopped(t *testing.T) {
	for after := range 4 {
		d := made(t, 1)
		d.Stop(after + 1)
		wantFlush(t, "the disk", d, api.OK)
		c := d.Copy()
		for _, x := range []*disk.Disk{c, d} {
			for range after {
				wantFlush(t, "both", x, api.OK)
			}
			wantStopped(t, "both", x)
		}
		wantStopped(t, "a copy of a stopped one", c.Copy())
	}
}

// TestCopyStartsAlone: P3.4, a Stop or a Crash of one is none of the other.
func TestCopyStartsAlone(t *testing.T) {
	d := made(t, 1)
	d.Stop(0)
	c := d.Copy()
	c.Crash(disk.Cut{})
	wantFlush(t, "the copy goes on", c, api.OK)
	wantStopped(t, "the disk does not", d)
	e := d.Copy()
	d.Crash(disk.Cut{})
	wantFlush(t, "the disk goes on", d, api.OK)
	wantStopped(t, "its copy does not", e)
	f := d.Copy()
	f.Stop(0)
	wantFlush(t, "the disk is not stopped", d, api.OK)
	d.Stop(0)
	f.Stop(1)
	wantStopped(t, "the disk is stopped", d)
	wantFlush(t, "its copy is not", f, api.OK)
}

// TestCopyGoesItsOwnWay: P3.4, whatever the one does, the other stays as it was.
func TestCopyGoesItsOwnWay(t *testing.T) {
	ways := []struct {
		what string
		do   func(*disk.Disk)
	}{
		{"Write", func(d *disk.Disk) { d.Write(0, full(50)); d.Write(3, full(51)) }},
		{"Flush", func(d *disk.Disk) { d.Flush() }},
		{"Write, Flush", func(d *disk.Disk) { d.Write(0, full(50)); d.Write(3, full(51)); d.Flush() }},
		{"Crash", func(d *disk.Disk) { d.Crash(disk.Cut{}) }},
		{"Crash that keeps", func(d *disk.Disk) { d.Crash(disk.Cut{Keep: []bool{true, false, true, true}, Torn: 1, Bytes: 60}) }},
		{"Crash, Write", func(d *disk.Disk) { d.Crash(disk.Cut{}); d.Write(0, full(52)) }},
		{"Flush, Write", func(d *disk.Disk) { d.Flush(); d.Write(0, full(53)); d.Write(1, full(54)) }},
	}
	for _, w := range ways {
		for _, first := range []bool{true, false} {
			moved, still := pended(t), (*disk.Disk)(nil)
			still = moved.Copy()
			if first {
				moved, still = still, moved
			}
			w.do(moved)
			what := fmt.Sprintf("%s, of the copy: %t", w.what, first)
			wantPending(t, what, still, 4)
			for n, b := range []byte{12, 13, 14, 4} {
				wantSector(t, what, still, n, full(b))
				wantSafe(t, what, still, n, full(byte(n+1)))
			}
			still.Flush()
			for n, b := range []byte{12, 13, 14, 4} {
				wantSector(t, what+", flushed", still, n, full(b))
			}
		}
	}
}

// TestCopiesShareNoRoom: P3.4, both go on behind the same pending writes, and neither writes into the other's list of them.
func TestCopiesShareNoRoom(t *testing.T) {
	for count := range 20 {
		d := made(t, 2)
		for i := range count {
			d.Write(0, patterned(byte(i)))
		}
		c := d.Copy()
		d.Write(1, full(1))
		c.Write(1, full(2))
		d.Flush()
		c.Flush()
		wantSafe(t, "the disk", d, 1, full(1))
		wantSafe(t, "the copy", c, 1, full(2))
	}
}
