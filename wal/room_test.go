package wal_test

import (
	"bytes"
	"fmt"
	"testing"

	"deponent/api"
	"deponent/wal"
)

// lengths are those of records: the least ones, and those about a sector's size, about two and about three.
func lengths() []int {
	l := []int{1, 2, 3, 4, 5, 31, 32, 63, 64, 65}
	for k := 1; k <= 3; k++ {
		for n := k*api.Sector - 40; n <= k*api.Sector+3; n++ {
			l = append(l, n)
		}
	}
	return l
}

// patterned answers so many bytes that tell their places.
func patterned(count, seed int) []byte {
	b := make([]byte, count)
	for i := range b {
		b[i] = byte(i*7 + i>>8 + seed)
	}
	return b
}

// TestRoomOfNothing: P4.2, how much room an empty log has at least, formatted and cleared.
func TestRoomOfNothing(t *testing.T) {
	for _, count := range []int{4, 5, 6, 7, 8, 9, 15, 16, 17, 100, 255, 256, 257, 3584, api.MaxSectors} {
		d, l := fresh(t, count)
		room := l.Room()
		if room < (count-3)*api.Sector/2 {
			t.Errorf("%d sectors: room %d", count, room)
		}
		wantCommit(t, "one past it", l, make([]byte, room+1), api.ErrFull)
		wantCommit(t, "all of it", l, patterned(room, 1), api.OK)
		wantRecords(t, "all of it", opened(t, d, 0, count), string(patterned(room, 1)))
		if l.Room() != 0 {
			t.Errorf("%d sectors: room %d behind a record of all of it", count, l.Room())
		}
		wantCommit(t, "one more", l, []byte{1}, api.ErrFull)
		wantCommit(t, "nothing more", l, nil, api.ErrArg)
		wantClear(t, "full", l, api.OK)
		if l.Room() != room || opened(t, d, 0, count).Room() != room {
			t.Errorf("%d sectors: room %d, cleared %d", count, room, l.Room())
		}
	}
}

// wantTaken tells that a record of n bytes took no more of the room than it may, and that Open finds the same.
func wantTaken(t *testing.T, l, again *wal.Log, n, was int) {
	t.Helper()
	if l.Room() < 0 || l.Room() > was || l.Room() < max(was-n-2*api.Sector, 0) {
		t.Fatalf("a record of %d bytes: room %d of %d", n, l.Room(), was)
	}
	if again.Room() != l.Room() || told(again.Records()) != told(l.Records()) {
		t.Fatalf("opened: room %d, want %d; %d records, want %d", again.Room(), l.Room(), len(again.Records()), len(l.Records()))
	}
}

// TestFilled: P4.2, logs that are filled with records of one length till no such goes in, then till nothing does, cleared and filled again.
func TestFilled(t *testing.T) {
	for _, count := range []int{4, 5, 11} {
		for _, n := range lengths() {
			d, l := fresh(t, count)
			for round := range 2 {
				var want []string
				for l.Room() >= n {
					was, b := l.Room(), patterned(n, len(want)+round)
					wantCommit(t, "it has room", l, b, api.OK)
					want = append(want, string(b))
					wantTaken(t, l, opened(t, d, 0, count), n, was)
				}
				wantCommit(t, fmt.Sprintf("round %d", round), l, make([]byte, n), api.ErrFull)
				if rest := l.Room(); rest > 0 {
					b := patterned(rest, 99)
					wantCommit(t, "one past the rest", l, make([]byte, rest+1), api.ErrFull)
					wantCommit(t, "the rest", l, b, api.OK)
					want = append(want, string(b))
					wantTaken(t, l, opened(t, d, 0, count), rest, rest)
				}
				wantCommit(t, "full", l, []byte{0}, api.ErrFull)
				wantRecords(t, "full", l, want...)
				wantRecords(t, "full, opened", opened(t, d, 0, count), want...)
				wantClear(t, "full", l, api.OK)
				wantRecords(t, "cleared", l)
				wantRecords(t, "cleared, opened", opened(t, d, 0, count))
			}
		}
	}
}

// TestOpenedAnewEachTime: P4.2, each Commit by a log of its own goes behind the records of those ahead.
func TestOpenedAnewEachTime(t *testing.T) {
	d, _ := fresh(t, 60)
	var want []string
	for _, n := range lengths() {
		if len(want) >= 40 {
			break
		}
		l := opened(t, d, 0, 60)
		if l.Room() < n {
			break
		}
		b := patterned(n, n)
		wantCommit(t, "opened anew", l, b, api.OK)
		want = append(want, string(b))
		wantRecords(t, "opened anew", l, want...)
	}
	wantRecords(t, "at the end", opened(t, d, 0, 60), want...)
}

// TestAnyBytes: P4.2, records are any bytes, noughts and what stands on the log's own sectors too, and unlike ones stay unlike.
func TestAnyBytes(t *testing.T) {
	d, l := fresh(t, 400)
	var want []string
	put := func(b []byte) {
		t.Helper()
		wantCommit(t, "any bytes", l, b, api.OK)
		want = append(want, string(b))
	}
	put([]byte{0})
	put([]byte{0, 0})
	put(make([]byte, 3*api.Sector))
	put(full(255, 3*api.Sector))
	put([]byte{0})
	for n := range 8 {
		s, _ := d.Read(n)
		put(s)
		put(append(make([]byte, 120-3), s...))
	}
	put([]byte(image(d)[:9*api.Sector]))
	put(bytes.Repeat([]byte("same"), 50))
	put(bytes.Repeat([]byte("same"), 50))
	wantRecords(t, "any bytes", l, want...)
	wantRecords(t, "any bytes, opened", opened(t, d, 0, 400), want...)
}
