package wal_test

import (
	"bytes"
	"fmt"
	"math/rand"
	"testing"

	"deponent/api"
	"deponent/disk"
	"deponent/wal"
)

// cover writes b to so many sectors.
func cover(d *disk.Disk, from, count int, b []byte) {
	for n := from; n < from+count; n++ {
		d.Write(n, b)
	}
	d.Flush()
}

// drawn answers a sector of drawn bytes.
func drawn(r *rand.Rand) []byte {
	b := make([]byte, api.Sector)
	for i := range b {
		b[i] = byte(r.Intn(256))
	}
	return b
}

// TestNoughtsAreNone: P4.1, noughts are no log, wherever, and whatever stood there.
func TestNoughtsAreNone(t *testing.T) {
	for _, count := range []int{4, 5, 9, 40} {
		d := made(t, count+3)
		for from := range 4 {
			wantNone(t, "a new disk", d, from, count, api.ErrDisk)
		}
		wal.Format(d, 1, count)
		opened(t, d, 1, count)
		cover(d, 1, count, make([]byte, api.Sector))
		wantNone(t, "noughts over an empty log", d, 1, count, api.ErrDisk)
		wal.Format(d, 1, count)
		wantCommit(t, "ahead", opened(t, d, 1, count), []byte("a"), api.OK)
		cover(d, 1, count, make([]byte, api.Sector))
		wantNone(t, "noughts over a log", d, 1, count, api.ErrDisk)
	}
}

// TestWhatSomethingElseWrote: P4.1, sectors that are all of one byte, of drawn ones, or of a text are no log, nor what stands on one elsewhere.
func TestWhatSomethingElseWrote(t *testing.T) {
	r := rand.New(rand.NewSource(1))
	for _, count := range []int{4, 5, 9} {
		d := formatted(t, 30, 0, count)
		wantCommit(t, "ahead", opened(t, d, 0, count), []byte("a"), api.OK)
		for b := range 256 {
			cover(d, 15, count, full(byte(b), api.Sector))
			wantNone(t, "one byte", d, 15, count, api.ErrDisk)
		}
		for range 50 {
			for n := range count {
				d.Write(15+n, drawn(r))
			}
			wantNone(t, "drawn bytes", d, 15, count, api.ErrDisk)
		}
		cover(d, 15, count, bytes.Repeat([]byte("a text.."), api.Sector/8))
		wantNone(t, "a text", d, 15, count, api.ErrDisk)
		for n := range count {
			s, _ := d.Read(n)
			d.Write(15+n, s)
		}
		wantNone(t, "a log that was brought there by something else", d, 15, count, api.ErrDisk)
		wantRecords(t, "the log itself", opened(t, d, 0, count), "a")
	}
}

// TestOtherSectors: P4.1, a log is none on other sectors than those it was formatted on, be they some of them or more.
func TestOtherSectors(t *testing.T) {
	d := formatted(t, 30, 9, 9)
	wantCommit(t, "ahead", opened(t, d, 9, 9), full('a', 200), api.OK)
	for from := range 30 {
		for count := 4; from+count <= 30; count++ {
			if from != 9 || count != 9 {
				wantNone(t, "other sectors", d, from, count, api.ErrDisk)
			}
		}
	}
	wantRecords(t, "its own", opened(t, d, 9, 9), string(full('a', 200)))
}

// TestLogsOverLogs: P4.1, where a log was formatted over some sectors of another one and has changed them, that one is none any more; else it is as it was.
func TestLogsOverLogs(t *testing.T) {
	for records := range 4 {
		first := formatted(t, 30, 9, 9)
		l := opened(t, first, 9, 9)
		for range records {
			wantCommit(t, "ahead", l, full('a', 150), api.OK)
		}
		was := image(first)[9*api.Sector : 18*api.Sector]
		for from := range 30 {
			for count := 4; from+count <= 30; count++ {
				if from == 9 && count == 9 {
					continue
				}
				d := first.Copy()
				if why := wal.Format(d, from, count); why != api.OK {
					t.Fatalf("Format(%d, %d): %v", from, count, why)
				}
				what := fmt.Sprintf("a log of %d sectors from %d on", count, from)
				wantRecords(t, what, opened(t, d, from, count))
				if image(d)[9*api.Sector:18*api.Sector] == was {
					wantRecords(t, what, opened(t, d, 9, 9), toldOf(l)...)
				} else {
					wantNone(t, what, d, 9, 9, api.ErrDisk)
				}
			}
		}
	}
}

// TestAnyOneSector: P4.1, where something else has written to one sector of a log, of its records or not, there is none; but noughts that were there are no change.
func TestAnyOneSector(t *testing.T) {
	r := rand.New(rand.NewSource(2))
	for records := range 4 {
		d := formatted(t, 12, 1, 10)
		l := opened(t, d, 1, 10)
		for i := range records {
			wantCommit(t, "ahead", l, patterned(60*(i+1), i), api.OK)
		}
		for n := 1; n < 11; n++ {
			was, _ := d.Read(n)
			others := [][]byte{full(255, api.Sector), full(1, api.Sector), drawn(r), bytes.Repeat([]byte("else"), api.Sector/4)}
			for _, b := range others {
				e := d.Copy()
				cover(e, n, 1, b)
				wantNone(t, fmt.Sprintf("%d records, sector %d", records, n), e, 1, 10, api.ErrDisk)
				if why := wal.Format(e, 1, 10); why != api.OK {
					t.Fatalf("Format over it: %v", why)
				}
				wantRecords(t, "Format over it", opened(t, e, 1, 10))
			}
			e := d.Copy()
			cover(e, n, 1, make([]byte, api.Sector))
			if bytes.Equal(was, make([]byte, api.Sector)) {
				wantRecords(t, "noughts over noughts", opened(t, e, 1, 10), toldOf(l)...)
			} else {
				wantNone(t, fmt.Sprintf("%d records, noughts in sector %d", records, n), e, 1, 10, api.ErrDisk)
			}
		}
	}
}

// TestAnyHalfOfASector: P4.1, nor where it has written to a half of one.
func TestAnyHalfOfASector(t *testing.T) {
	d, l := fresh(t, 8)
	wantCommit(t, "ahead", l, patterned(200, 1), api.OK)
	for n := range 8 {
		for _, start := range []int{0, api.Sector / 2} {
			e := d.Copy()
			b, _ := e.Read(n)
			copy(b[start:], full(255, api.Sector/2))
			cover(e, n, 1, b)
			wantNone(t, fmt.Sprintf("half of sector %d from byte %d on", n, start), e, 0, 8, api.ErrDisk)
		}
	}
}

// TestSectorsThatWereMoved: P4.1, nor where it has brought one of the log's own sectors to another place of it.
func TestSectorsThatWereMoved(t *testing.T) {
	d, l := fresh(t, 8)
	wantCommit(t, "ahead", l, patterned(200, 1), api.OK)
	for from := range 8 {
		for to := range 8 {
			e := d.Copy()
			b, _ := e.Read(from)
			was, _ := e.Read(to)
			cover(e, to, 1, b)
			if bytes.Equal(b, was) {
				wantRecords(t, "the same", opened(t, e, 0, 8), toldOf(l)...)
			} else {
				wantNone(t, fmt.Sprintf("sector %d brought to %d", from, to), e, 0, 8, api.ErrDisk)
			}
		}
	}
}

// toldOf answers a log's records as texts.
func toldOf(l *wal.Log) []string {
	var list []string
	for _, b := range l.Records() {
		list = append(list, string(b))
	}
	return list
}

// TestAnyOneByte: P4.1, where something else has changed one byte of a log, there is none, or its records are as they were.
func TestAnyOneByte(t *testing.T) {
	d, l := fresh(t, 6)
	wantCommit(t, "ahead", l, patterned(50, 1), api.OK)
	wantCommit(t, "ahead", l, patterned(150, 2), api.OK)
	want := told(l.Records())
	for n := range 6 {
		was, _ := d.Read(n)
		for i := range was {
			for _, by := range []byte{1, 128, 255} {
				b := bytes.Clone(was)
				b[i] ^= by
				e := d.Copy()
				cover(e, n, 1, b)
				m, why := wal.Open(e, 0, 6)
				if why == api.OK && told(m.Records()) != want || why != api.OK && why != api.ErrDisk {
					t.Fatalf("byte %d of sector %d by %d: %v", i, n, by, why)
				}
			}
		}
	}
}

// TestAnyByteOfTheHead: P4.1, where something else has changed one byte of the sector that tells of the records, whatever it is that this byte tells, there is none.
func TestAnyByteOfTheHead(t *testing.T) {
	d, l := fresh(t, 6)
	for round := range 5 {
		wantCommit(t, "ahead", l, patterned(40, round), api.OK)
		found := 0 // bytes of which a change is found out, of the sector that has most of them
		for n := range 6 {
			was, _ := d.Read(n)
			here := 0
			for i := range was {
				noticed := 1
				for _, by := range []byte{1, 2, 4, 8, 16, 32, 64, 128, 255} {
					b := bytes.Clone(was)
					b[i] ^= by
					e := d.Copy()
					cover(e, n, 1, b)
					if m, why := wal.Open(e, 0, 6); why == api.OK {
						noticed = 0
						wantRecords(t, "a byte that tells nothing", m, toldOf(l)...)
					}
				}
				here += noticed
			}
			found = max(found, here)
		}
		if found != api.Sector {
			t.Fatalf("%d records: changes of %d bytes are found out", round+1, found)
		}
	}
}

// TestHeadsThatTellOtherwise: P4.1, R1, where something else has changed one byte of all that a log tells of its records, each time likewise, there is no log, whatever they tell now.
func TestHeadsThatTellOtherwise(t *testing.T) {
	d, l := fresh(t, 6)
	empty := d.Copy()
	wantCommit(t, "ahead", l, patterned(50, 1), api.OK)
	wantCommit(t, "ahead", l, []byte{0, 0, 0}, api.OK)
	for i := range api.Sector / 2 {
		for by := 1; by < 256; by++ {
			for _, e := range []*disk.Disk{d.Copy(), empty.Copy()} {
				for n := range 2 {
					b, _ := e.Read(n)
					b[i] ^= byte(by)
					b[i+api.Sector/2] ^= byte(by)
					e.Write(n, b)
				}
				wantNone(t, fmt.Sprintf("byte %d by %d", i, by), e, 0, 6, api.ErrDisk)
			}
		}
	}
}

// TestFormatOverAnything: P4.1, whatever stood there, Format leaves an empty log that works.
func TestFormatOverAnything(t *testing.T) {
	r := rand.New(rand.NewSource(3))
	for round := range 40 {
		d := made(t, 12)
		for n := range 12 {
			if r.Intn(3) > 0 {
				d.Write(n, drawn(r))
			}
		}
		if round%2 == 0 {
			d.Flush()
		}
		if why := wal.Format(d, 2, 8); why != api.OK || d.Pending() != 0 {
			t.Fatalf("Format: %v, %d pending", why, d.Pending())
		}
		l := opened(t, d, 2, 8)
		wantRecords(t, "Format", l)
		wantCommit(t, "Format", l, patterned(300, round), api.OK)
		wantRecords(t, "Format", opened(t, d, 2, 8), string(patterned(300, round)))
		if why := wal.Format(d, 2, 8); why != api.OK {
			t.Fatalf("Format anew: %v", why)
		}
		wantRecords(t, "Format anew", opened(t, d, 2, 8))
	}
}
