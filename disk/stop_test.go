package disk_test

import (
	"math"
	"testing"

	"deponent/api"
	"deponent/disk"
)

// wantStopped asks that no Write and no Flush does anything, and that a wrong Write is refused as ever.
func wantStopped(t *testing.T, what string, d *disk.Disk) {
	t.Helper()
	pending := d.Pending()
	was, _ := d.Read(0)
	for range 3 {
		wantWrite(t, what, d, 0, patterned(200), api.ErrDisk)
		wantFlush(t, what, d, api.ErrDisk)
		wantWrite(t, what, d, -1, full(1), api.ErrArg)
		wantWrite(t, what, d, d.Sectors(), full(1), api.ErrArg)
		wantWrite(t, what, d, 0, full(1)[1:], api.ErrArg)
		wantWrite(t, what, d, 0, nil, api.ErrArg)
		if b, why := d.Read(d.Sectors()); len(b) != 0 || why != api.ErrArg {
			t.Errorf("%s: of no sector: %x, %v", what, b, why)
		}
		wantSector(t, what, d, 0, was)
		wantPending(t, what, d, pending)
	}
}

// TestStopAfter: P3.2, how many Writes and Flushes go on; wrong ones and Reads do not count.
func TestStopAfter(t *testing.T) {
	for _, c := range []struct{ after, done int }{{math.MinInt, 0}, {-7, 0}, {-1, 0}, {0, 0}, {1, 1}, {2, 2}, {3, 3}, {8, 8}, {101, 101}} {
		for _, flushes := range []int{1, 2, 3} {
			d := made(t, 2)
			d.Stop(c.after)
			safe, last := full(0), full(0)
			for i := range c.done {
				wantWrite(t, "wrong", d, 2, full(1), api.ErrArg)
				wantWrite(t, "wrong", d, 0, full(1)[2:], api.ErrArg)
				wantSector(t, "read", d, 0, last)
				if i%flushes == flushes-1 {
					wantFlush(t, "ahead of the stop", d, api.OK)
					safe = last
				} else {
					last = patterned(byte(i))
					wantWrite(t, "ahead of the stop", d, 0, last, api.OK)
				}
			}
			wantStopped(t, "stopped", d)
			wantSector(t, "stopped", d, 0, last)
			wantSafe(t, "stopped", d, 0, safe)
		}
	}
}

// TestNoStop: P3.2, a disk that nobody stops goes on, and so does one whose stop is far off.
func TestNoStop(t *testing.T) {
	for _, far := range []bool{false, true} {
		d := made(t, 1)
		if far {
			d.Stop(math.MaxInt)
		}
		for i := range 1000 {
			wantWrite(t, "no stop", d, 0, patterned(byte(i)), api.OK)
			wantFlush(t, "no stop", d, api.OK)
		}
		wantSafe(t, "no stop", d, 0, patterned(999&0xff))
	}
}

// TestLaterStop: P3.2, a later Stop takes the place of an earlier one, whether that has stopped the disk or not.
func TestLaterStop(t *testing.T) {
	d := made(t, 1)
	d.Stop(5)
	wantFlush(t, "five", d, api.OK)
	d.Stop(2)
	wantFlush(t, "fewer", d, api.OK)
	wantFlush(t, "fewer", d, api.OK)
	wantStopped(t, "fewer", d)
	d.Stop(1)
	wantWrite(t, "one more", d, 0, full(1), api.OK)
	wantStopped(t, "one more", d)
	d.Stop(0)
	wantStopped(t, "none more", d)
	d.Stop(3)
	d.Stop(-3)
	wantStopped(t, "none at once", d)
	d.Stop(0)
	d.Stop(3)
	for range 3 {
		wantFlush(t, "three", d, api.OK)
	}
	wantStopped(t, "three", d)
}

// TestCrashStarts: P3.3, behind a crash a disk is not stopped, nor will it stop; nor does a crash itself count.
func TestCrashStarts(t *testing.T) {
	for _, after := range []int{-1, 0, 1, 2, 3, 50} {
		d := made(t, 1)
		d.Stop(after)
		for range 3 {
			d.Flush()
		}
		d.Crash(disk.Cut{})
		for i := range 100 {
			wantWrite(t, "behind a crash", d, 0, patterned(byte(i)), api.OK)
			wantFlush(t, "behind a crash", d, api.OK)
		}
		d.Stop(1)
		wantFlush(t, "stopped again", d, api.OK)
		wantStopped(t, "stopped again", d)
	}
}

// TestStoppedCrash: P3.2, P3.3: what was written ahead of the stop is pending still, what came behind it is not.
func TestStoppedCrash(t *testing.T) {
	d := made(t, 3)
	d.Stop(2)
	wantWrite(t, "ahead", d, 0, full(1), api.OK)
	wantWrite(t, "ahead", d, 1, full(2), api.OK)
	wantWrite(t, "behind", d, 1, full(3), api.ErrDisk)
	wantWrite(t, "behind", d, 2, full(4), api.ErrDisk)
	wantFlush(t, "behind", d, api.ErrDisk)
	wantPending(t, "behind", d, 2)
	d.Crash(disk.Cut{Keep: []bool{false, true, true, true}, Torn: 0, Bytes: 4})
	wantSector(t, "crashed", d, 0, begun(4, 1, 0))
	wantSector(t, "crashed", d, 1, full(2))
	wantSector(t, "crashed", d, 2, full(0))
	wantPending(t, "crashed", d, 0)
}
