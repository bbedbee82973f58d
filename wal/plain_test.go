package wal_test

import (
	"fmt"
	"math/rand"
	"slices"
	"testing"

	"deponent/api"
	"deponent/disk"
	"deponent/wal"
)

// plain is what chapter 4 says of a log: a list of records, and the list that a call in flight would make of it.
type plain struct {
	from, count int
	safe        [][]byte
	flight      [][]byte
	flies       bool // a call of it is in flight
	formats     bool // and it is a Format
	log         *wal.Log
}

// step does one call, drawn by r, with the disk stopped or not.
func (p *plain) step(t *testing.T, r *rand.Rand, d *disk.Disk) {
	t.Helper()
	var why api.Errno
	p.formats = p.log == nil || r.Intn(12) == 0
	switch {
	case p.formats:
		p.flight, why = nil, wal.Format(d, p.from, p.count)
		if why == api.OK {
			p.log = opened(t, d, p.from, p.count)
		}
	case r.Intn(6) == 0:
		p.flight, why = nil, p.log.Clear()
	default:
		b := patterned(1+r.Intn(min(300, max(p.log.Room(), 1))), r.Intn(3))
		p.flight, why = append(slices.Clone(p.safe), b), p.log.Commit(b)
		if why == api.ErrFull && len(b) > p.log.Room() {
			return
		}
	}
	switch why {
	case api.OK:
		p.safe = p.flight
	case api.ErrDisk:
		p.flies = true
	default:
		t.Fatalf("P4.2: %v", why)
	}
}

// settle opens the log after a crash, and takes the call in flight for done or not, as it is found.
func (p *plain) settle(t *testing.T, what string, d *disk.Disk) {
	t.Helper()
	l, why := wal.Open(d, p.from, p.count)
	if why != api.OK {
		if why != api.ErrDisk || p.log != nil && !(p.flies && p.formats) {
			t.Fatalf("%s: the log from %d on: %v", what, p.from, why)
		}
		p.log, p.safe, p.flies = nil, nil, false
		return
	}
	got := told(l.Records())
	switch {
	case p.flies && got == told(p.flight):
		p.safe = p.flight
	case p.log == nil || got != told(p.safe):
		t.Fatalf("%s: the log from %d on: %s, want %s or %s (%t)", what, p.from, got, told(p.safe), told(p.flight), p.flies)
	}
	p.log, p.flies = l, false
}

// drawnCut draws what a crash leaves.
func drawnCut(r *rand.Rand, pending int) disk.Cut {
	c := disk.Cut{Torn: r.Intn(pending+2) - 1, Bytes: r.Intn(api.Sector + 1)}
	for range r.Intn(pending + 2) {
		c.Keep = append(c.Keep, r.Intn(2) == 0)
	}
	return c
}

// TestLikePlain: P4.1 to P4.3, W2, long runs of drawn calls of two logs side by side, with crashes at any moment: what is found is what was acknowledged, or that with the call in flight done, and nothing else on the disk is changed.
func TestLikePlain(t *testing.T) {
	for seed := range int64(60) {
		r := rand.New(rand.NewSource(seed))
		d := made(t, 40)
		beside := []int{0, 1, 12, 35, 39}
		for _, n := range beside {
			d.Write(n, full(byte(n+1), api.Sector))
		}
		d.Flush()
		logs := []*plain{{from: 2, count: 10}, {from: 13, count: 4 + r.Intn(18)}}
		for round := range 60 {
			what := fmt.Sprintf("seed %d, round %d", seed, round)
			if r.Intn(2) == 0 {
				d.Stop(r.Intn(14))
			}
			for range 1 + r.Intn(3) {
				p := logs[r.Intn(2)]
				if p.flies {
					break
				}
				p.step(t, r, d)
				if p.flies {
					break
				}
			}
			if logs[0].flies || logs[1].flies || r.Intn(3) == 0 {
				d.Crash(drawnCut(r, d.Pending()))
				logs[0].settle(t, what, d)
				logs[1].settle(t, what, d)
			}
			for _, n := range beside {
				if s, _ := d.Read(n); string(s) != string(full(byte(n+1), api.Sector)) {
					t.Fatalf("%s: sector %d was written", what, n)
				}
			}
		}
	}
}
