package disk_test

import (
	"math"
	"slices"
	"testing"

	"deponent/api"
	"deponent/disk"
)

// TestRuns: the chapter's section 'Runs'.
func TestRuns(t *testing.T) {
	d := made(t, 1)
	wantWrite(t, "run 1", d, 0, full(1), api.OK)
	wantSector(t, "run 1", d, 0, full(1))
	d.Crash(disk.Cut{})
	wantSector(t, "run 1, crashed", d, 0, full(0))

	d = made(t, 1)
	wantWrite(t, "run 2", d, 0, full(1), api.OK)
	d.Crash(disk.Cut{Torn: 0, Bytes: 2})
	wantSector(t, "run 2", d, 0, begun(2, 1, 0))

	d = made(t, 1)
	wantWrite(t, "run 3", d, 0, full(1), api.OK)
	wantFlush(t, "run 3", d, api.OK)
	wantWrite(t, "run 3", d, 0, full(2), api.OK)
	d.Crash(disk.Cut{Keep: []bool{true}})
	wantSector(t, "run 3", d, 0, full(2))

	d = made(t, 1)
	d.Stop(1)
	wantWrite(t, "run 4", d, 0, full(1), api.OK)
	wantWrite(t, "run 4", d, 0, full(1), api.ErrDisk)
	wantFlush(t, "run 4", d, api.ErrDisk)
	d.Crash(disk.Cut{})
	wantWrite(t, "run 4", d, 0, full(1), api.OK)
}

// TestExamples: the chapter's section 'Examples'.
func TestExamples(t *testing.T) {
	d := made(t, 1)
	wantWrite(t, "example 1", d, 0, full(1), api.OK)
	d.Crash(disk.Cut{Keep: []bool{true}, Torn: 0, Bytes: 3})
	wantSector(t, "example 1", d, 0, full(1))

	wantWrite(t, "example 2", d, 0, full(2), api.OK)
	wantWrite(t, "example 2", d, 0, full(3), api.OK)
	d.Crash(disk.Cut{Keep: []bool{false, true}, Torn: -1})
	wantSector(t, "example 2", d, 0, full(3))

	d.Stop(0)
	wantWrite(t, "example 3", d, 0, full(4), api.ErrDisk)
	for range 3 {
		wantSector(t, "example 3", d, 0, full(3))
	}
}

// cuts are crashes of four pending writes, 11 and 12 to sector 0, 13 to sector 1, 14 to sector 2, over safe sectors 1, 2, 3; sector 3 is not written.
var cuts = []struct {
	what string
	cut  disk.Cut
	want [3][]byte
}{
	{"nothing", disk.Cut{}, [3][]byte{full(1), full(2), full(3)}},
	{"none is torn", disk.Cut{Torn: -1, Bytes: 128}, [3][]byte{full(1), full(2), full(3)}},
	{"far below the first is torn", disk.Cut{Torn: math.MinInt, Bytes: 128}, [3][]byte{full(1), full(2), full(3)}},
	{"past the last is torn", disk.Cut{Torn: 4, Bytes: 128}, [3][]byte{full(1), full(2), full(3)}},
	{"far past the last is torn", disk.Cut{Torn: math.MaxInt, Bytes: 128}, [3][]byte{full(1), full(2), full(3)}},
	{"an empty Keep", disk.Cut{Keep: []bool{}, Torn: -1}, [3][]byte{full(1), full(2), full(3)}},
	{"none is kept", disk.Cut{Keep: make([]bool, 9), Torn: -1}, [3][]byte{full(1), full(2), full(3)}},
	{"all are kept", disk.Cut{Keep: []bool{true, true, true, true}, Torn: -1}, [3][]byte{full(12), full(13), full(14)}},
	{"Keep is longer", disk.Cut{Keep: []bool{true, true, true, true, true, true}, Torn: 5, Bytes: 5}, [3][]byte{full(12), full(13), full(14)}},
	{"Keep is longer, the pending ones are lost", disk.Cut{Keep: []bool{false, false, false, false, true, true}, Torn: -1}, [3][]byte{full(1), full(2), full(3)}},
	{"the first is kept", disk.Cut{Keep: []bool{true}, Torn: -1}, [3][]byte{full(11), full(2), full(3)}},
	{"the second is kept", disk.Cut{Keep: []bool{false, true}, Torn: -1}, [3][]byte{full(12), full(2), full(3)}},
	{"the third is kept", disk.Cut{Keep: []bool{false, false, true}, Torn: -1}, [3][]byte{full(1), full(13), full(3)}},
	{"the last is kept", disk.Cut{Keep: []bool{false, false, false, true}, Torn: -1}, [3][]byte{full(1), full(2), full(14)}},
	{"the first is torn", disk.Cut{Torn: 0, Bytes: 5}, [3][]byte{begun(5, 11, 1), full(2), full(3)}},
	{"the last is torn", disk.Cut{Torn: 3, Bytes: 5}, [3][]byte{full(1), full(2), begun(5, 14, 3)}},
	{"one is torn behind the end of Keep", disk.Cut{Keep: []bool{true, false}, Torn: 2, Bytes: 9}, [3][]byte{full(11), begun(9, 13, 2), full(3)}},
	{"one is torn that is not kept", disk.Cut{Keep: []bool{false, false, false, true}, Torn: 2, Bytes: 9}, [3][]byte{full(1), begun(9, 13, 2), full(14)}},
	{"one is torn that is kept", disk.Cut{Keep: []bool{false, false, true}, Torn: 2, Bytes: 9}, [3][]byte{full(1), full(13), full(3)}},
	{"the first is kept, the second torn over it", disk.Cut{Keep: []bool{true}, Torn: 1, Bytes: 7}, [3][]byte{begun(7, 12, 11), full(2), full(3)}},
	{"the first is torn, the second kept over it", disk.Cut{Keep: []bool{false, true}, Torn: 0, Bytes: 7}, [3][]byte{full(12), full(2), full(3)}},
	{"far fewer than no bytes", disk.Cut{Torn: 0, Bytes: math.MinInt}, [3][]byte{full(1), full(2), full(3)}},
	{"fewer than no bytes", disk.Cut{Torn: 0, Bytes: -1}, [3][]byte{full(1), full(2), full(3)}},
	{"no bytes", disk.Cut{Torn: 0, Bytes: 0}, [3][]byte{full(1), full(2), full(3)}},
	{"a byte", disk.Cut{Torn: 0, Bytes: 1}, [3][]byte{begun(1, 11, 1), full(2), full(3)}},
	{"all bytes but one", disk.Cut{Torn: 0, Bytes: api.Sector - 1}, [3][]byte{begun(api.Sector-1, 11, 1), full(2), full(3)}},
	{"all bytes", disk.Cut{Torn: 0, Bytes: api.Sector}, [3][]byte{full(11), full(2), full(3)}},
	{"more than all bytes", disk.Cut{Torn: 0, Bytes: api.Sector + 1}, [3][]byte{full(11), full(2), full(3)}},
	{"far more than all bytes", disk.Cut{Torn: 0, Bytes: math.MaxInt}, [3][]byte{full(11), full(2), full(3)}},
}

// pended answers the disk that cuts tells of.
func pended(t *testing.T) *disk.Disk {
	t.Helper()
	d := made(t, 4)
	for n := range 4 {
		wantWrite(t, "safe", d, n, full(byte(n+1)), api.OK)
	}
	wantFlush(t, "safe", d, api.OK)
	for k, n := range []int{0, 0, 1, 2} {
		wantWrite(t, "pending", d, n, full(byte(11+k)), api.OK)
	}
	wantPending(t, "pending", d, 4)
	return d
}

// TestCuts: P3.3, what a crash leaves; none is pending behind it, and what is left is safe.
func TestCuts(t *testing.T) {
	for _, c := range cuts {
		d := pended(t)
		for _, what := range []string{c.what, c.what + ", crashed again"} {
			d.Crash(c.cut)
			wantPending(t, what, d, 0)
			for n, want := range c.want {
				wantSector(t, what, d, n, want)
				wantSafe(t, what, d, n, want)
			}
			wantSector(t, what, d, 3, full(4))
		}
		wantFlush(t, c.what, d, api.OK)
		for n, want := range c.want {
			wantSector(t, c.what+", flushed", d, n, want)
		}
	}
}

// TestTearsEverywhere: P3.3, wherever a write is torn, its first bytes are new and the others as they were.
func TestTearsEverywhere(t *testing.T) {
	for count := range api.Sector + 1 {
		d := made(t, 1)
		wantWrite(t, "torn", d, 0, patterned(1), api.OK)
		wantFlush(t, "torn", d, api.OK)
		wantWrite(t, "torn", d, 0, patterned(2), api.OK)
		d.Crash(disk.Cut{Bytes: count})
		wantSector(t, "torn", d, 0, slices.Concat(patterned(2)[:count], patterned(1)[count:]))
	}
}

// TestCountFromFlush: P3.3, which write is the k-th is counted among those that are pending.
func TestCountFromFlush(t *testing.T) {
	d := made(t, 3)
	wantWrite(t, "flushed", d, 0, full(1), api.OK)
	wantWrite(t, "flushed", d, 1, full(1), api.OK)
	wantFlush(t, "flushed", d, api.OK)
	wantWrite(t, "pending", d, 1, full(2), api.OK)
	wantWrite(t, "pending", d, 9, full(2), api.ErrArg)
	wantWrite(t, "pending", d, 2, full(2), api.OK)
	d.Crash(disk.Cut{Keep: []bool{false, true}, Torn: -1})
	wantSector(t, "counted", d, 0, full(1))
	wantSector(t, "counted", d, 1, full(1))
	wantSector(t, "counted", d, 2, full(2))
	wantWrite(t, "counted again", d, 0, full(3), api.OK)
	d.Crash(disk.Cut{Keep: []bool{true}, Torn: -1})
	wantSector(t, "counted again", d, 0, full(3))
}

// TestKeepIsLeft: R2, R5: a Cut is neither changed nor kept, and the room behind Keep is not read.
func TestKeepIsLeft(t *testing.T) {
	whole := []bool{true, false, true, true, true, true}
	was := slices.Clone(whole)
	d := pended(t)
	d.Crash(disk.Cut{Keep: whole[:2], Torn: -1})
	if !slices.Equal(whole, was) {
		t.Errorf("Keep is changed: %v", whole)
	}
	for n, want := range [][]byte{full(11), full(2), full(3), full(4)} {
		wantSector(t, "room behind Keep", d, n, want)
	}
	whole[0], whole[1] = false, true
	for n, want := range [][]byte{full(11), full(2), full(3), full(4)} {
		wantSector(t, "Keep changed afterwards", d, n, want)
	}
	wantWrite(t, "Keep changed afterwards", d, 0, full(21), api.OK)
	wantPending(t, "Keep changed afterwards", d, 1)
	d.Crash(disk.Cut{Torn: -1})
	wantSector(t, "a later Cut", d, 0, full(11))
}
