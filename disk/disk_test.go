package disk_test

import (
	"bytes"
	"math"
	"slices"
	"testing"

	"deponent/api"
	"deponent/disk"
)

// full answers a sector's text of one byte.
func full(c byte) []byte { return bytes.Repeat([]byte{c}, api.Sector) }

// begun answers a sector's text that begins with so many of a byte, and goes on with another.
func begun(count int, c, rest byte) []byte {
	b := full(rest)
	copy(b[:count], full(c))
	return b
}

// patterned answers a sector's text no two neighbours of which are alike, so that bytes at wrong places show.
func patterned(seed byte) []byte {
	b := make([]byte, api.Sector)
	for i := range b {
		b[i] = seed + byte(3*i)
	}
	return b
}

func made(t *testing.T, sectors int) *disk.Disk {
	t.Helper()
	d, why := disk.New(sectors)
	if d == nil || why != api.OK {
		t.Fatalf("New(%d): %v, %v", sectors, d, why)
	}
	return d
}

func wantSector(t *testing.T, what string, d *disk.Disk, n int, want []byte) {
	t.Helper()
	if b, why := d.Read(n); why != api.OK || !bytes.Equal(b, want) {
		t.Errorf("%s: sector %d: %x, %v, not %x", what, n, b, why, want)
	}
}

func wantPending(t *testing.T, what string, d *disk.Disk, want int) {
	t.Helper()
	if n := d.Pending(); n != want {
		t.Errorf("%s: %d are pending, not %d", what, n, want)
	}
}

func wantWrite(t *testing.T, what string, d *disk.Disk, n int, b []byte, want api.Errno) {
	t.Helper()
	if why := d.Write(n, b); why != want {
		t.Errorf("%s: Write(%d, %d bytes): %v, not %v", what, n, len(b), why, want)
	}
}

func wantFlush(t *testing.T, what string, d *disk.Disk, want api.Errno) {
	t.Helper()
	if why := d.Flush(); why != want {
		t.Errorf("%s: Flush: %v, not %v", what, why, want)
	}
}

// wantSafe crashes a copy of d, so that it tells what is safe and leaves d as it is.
func wantSafe(t *testing.T, what string, d *disk.Disk, n int, want []byte) {
	t.Helper()
	c := d.Copy()
	c.Crash(disk.Cut{})
	wantSector(t, what+", after a crash", c, n, want)
}

// TestNew: P3.1, how many sectors a disk may have, and what it begins with.
func TestNew(t *testing.T) {
	for _, n := range []int{math.MinInt, math.MinInt32, -api.MaxSectors, -1, 0, api.MaxSectors + 1, math.MaxInt32, math.MaxInt} {
		if d, why := disk.New(n); d != nil || why != api.ErrArg {
			t.Errorf("New(%d): %v, %v", n, d, why)
		}
	}
	for _, n := range []int{1, 2, 7, api.Need, api.MaxSectors - 1, api.MaxSectors} {
		d := made(t, n)
		if d.Sectors() != n {
			t.Errorf("New(%d): %d sectors", n, d.Sectors())
		}
		wantPending(t, "a new disk", d, 0)
		for i := range n {
			wantSector(t, "a new disk", d, i, full(0))
		}
		wantFlush(t, "a new disk", d, api.OK)
		wantWrite(t, "a new disk", d, n-1, full(1), api.OK)
		wantSector(t, "a new disk", d, n-1, full(1))
	}
}

// TestNoSector: P3.1, of no sector nothing is read, and nothing is written.
func TestNoSector(t *testing.T) {
	for _, sectors := range []int{1, 5, api.MaxSectors} {
		d := made(t, sectors)
		for _, n := range []int{math.MinInt, math.MinInt32, -sectors, -1, sectors, sectors + 1, api.MaxSectors, math.MaxInt32, math.MaxInt} {
			if b, why := d.Read(n); len(b) != 0 || why != api.ErrArg {
				t.Errorf("Read(%d) of %d sectors: %x, %v", n, sectors, b, why)
			}
			wantWrite(t, "no sector", d, n, full(1), api.ErrArg)
		}
		wantPending(t, "no sector", d, 0)
		for _, n := range []int{0, sectors / 2, sectors - 1} {
			wantSector(t, "no sector", d, n, full(0))
		}
	}
}

// TestNoText: P3.1, R4, R5: a text that has not Sector bytes is none, whatever room is behind it.
func TestNoText(t *testing.T) {
	d := made(t, 2)
	wantWrite(t, "before", d, 1, full(7), api.OK)
	roomy := bytes.Repeat([]byte{1}, 4*api.Sector)
	for _, b := range [][]byte{nil, {}, roomy[:0], roomy[:1], roomy[:api.Sector-1], roomy[:api.Sector+1], roomy[:2*api.Sector], full(1)[1:], append(full(1), 1)} {
		for _, n := range []int{-1, 0, 1, 2} {
			wantWrite(t, "no text", d, n, b, api.ErrArg)
		}
		wantPending(t, "no text", d, 1)
		wantSector(t, "no text", d, 0, full(0))
		wantSector(t, "no text", d, 1, full(7))
	}
	wantWrite(t, "a text with room behind it", d, 0, roomy[:api.Sector], api.OK)
	wantSector(t, "a text with room behind it", d, 0, full(1))
}

// TestWrittenLast: P3.1, what is read is what was written last, pending or safe, of its own sector alone.
func TestWrittenLast(t *testing.T) {
	const sectors = 5
	d := made(t, sectors)
	for n := range sectors {
		wantWrite(t, "the first", d, n, patterned(byte(n)), api.OK)
		wantPending(t, "the first", d, n+1)
		for i := range sectors {
			want := full(0)
			if i <= n {
				want = patterned(byte(i))
			}
			wantSector(t, "the first", d, i, want)
			wantSafe(t, "the first", d, i, full(0))
		}
	}
	wantWrite(t, "again", d, 2, patterned(50), api.OK)
	wantWrite(t, "again", d, 2, patterned(60), api.OK)
	wantPending(t, "again", d, sectors+2)
	wantSector(t, "again", d, 2, patterned(60))
	wantFlush(t, "again", d, api.OK)
	wantPending(t, "flushed", d, 0)
	for n, want := range [][]byte{patterned(0), patterned(1), patterned(60), patterned(3), patterned(4)} {
		wantSector(t, "flushed", d, n, want)
		wantSafe(t, "flushed", d, n, want)
	}
	wantWrite(t, "behind the flush", d, 2, patterned(70), api.OK)
	wantPending(t, "behind the flush", d, 1)
	wantSector(t, "behind the flush", d, 2, patterned(70))
	wantSafe(t, "behind the flush", d, 2, patterned(60))
}

// TestSameAgain: P3.1, a write of what is there already is pending too.
func TestSameAgain(t *testing.T) {
	d := made(t, 1)
	for i := range 3 {
		wantWrite(t, "noughts", d, 0, full(0), api.OK)
		wantPending(t, "noughts", d, i+1)
	}
	wantFlush(t, "noughts", d, api.OK)
	wantPending(t, "noughts", d, 0)
	wantFlush(t, "none is pending", d, api.OK)
	wantPending(t, "none is pending", d, 0)
}

// TestManyPending: P3.1, there may be more pending writes than sectors.
func TestManyPending(t *testing.T) {
	d := made(t, 3)
	const count = 3000
	for i := range count {
		wantWrite(t, "many", d, i%3, patterned(byte(i)), api.OK)
	}
	wantPending(t, "many", d, count)
	wantFlush(t, "many", d, api.OK)
	for n := range 3 {
		last := count - 3 + n
		wantSafe(t, "many", d, last%3, patterned(byte(last)))
	}
}

// TestMemory: R2, what is handed in is neither changed nor kept, what is answered is new, the room behind both included.
func TestMemory(t *testing.T) {
	d := made(t, 2)
	whole := bytes.Repeat([]byte{1}, 3*api.Sector)
	was := slices.Clone(whole)
	check := func(what string, want []byte) {
		t.Helper()
		if !bytes.Equal(whole, was) {
			t.Fatalf("%s: what is handed in is changed: %x", what, whole)
		}
		for range 2 {
			b, _ := d.Read(0)
			if !bytes.Equal(b, want) {
				t.Fatalf("%s: %x, not %x", what, b, want)
			}
			b = b[:cap(b)]
			for i := range b {
				b[i] ^= 0xff
			}
		}
		wantSector(t, what, d, 1, full(0))
	}
	spoil := func(c byte) {
		copy(whole, bytes.Repeat([]byte{c}, len(whole)))
		copy(was, whole)
	}
	d.Write(0, whole[api.Sector:2*api.Sector])
	check("pending", full(1))
	spoil(2)
	check("pending, spoilt", full(1))
	d.Flush()
	check("safe", full(1))
	spoil(3)
	check("safe, spoilt", full(1))
	d.Write(0, whole[:api.Sector])
	spoil(4)
	d.Crash(disk.Cut{Keep: []bool{true}})
	check("kept", full(3))
	spoil(5)
	check("kept, spoilt", full(3))
	d.Crash(disk.Cut{})
	check("after a crash", full(3))
}
