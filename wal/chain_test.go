package wal_test

import (
	"fmt"
	"math/rand"
	"slices"
	"testing"

	"deponent/api"
	"deponent/disk"
	"deponent/wal"
)

// link is one call of a chain of them, each of which is stopped after so many Writes and Flushes, and crashed: of what is pending then, one write is torn behind so many bytes, and others are kept.
type link struct {
	text string // of a Commit; empty: a Clear
	stop int
	cut  disk.Cut
}

func (k link) do(l *wal.Log) api.Errno {
	if k.text == "" {
		return l.Clear()
	}
	return l.Commit([]byte(k.text))
}

// done answers the records with the call done.
func (k link) done(records [][]byte) [][]byte {
	if k.text == "" {
		return nil
	}
	return append(slices.Clone(records), []byte(k.text))
}

// chained plays links on a log of so many sectors, and tells behind each of them that Open finds what was acknowledged, or that with the call in flight done.
func chained(t *testing.T, count int, ahead []string, links []link) {
	t.Helper()
	d, l := fresh(t, count)
	for _, s := range ahead {
		wantCommit(t, "ahead", l, []byte(s), api.OK)
	}
	for i, k := range links {
		before, after := told(l.Records()), told(k.done(l.Records()))
		d.Stop(k.stop)
		why := k.do(l)
		switch why {
		case api.OK:
			before = after
		case api.ErrDisk:
		case api.ErrFull:
			after = before
		default:
			t.Fatalf("%q ahead, %v: call %d: %v", ahead, links, i, why)
		}
		d.Crash(k.cut)
		m, why := wal.Open(d, 0, count)
		if why != api.OK {
			t.Fatalf("%q ahead, %v: Open behind call %d: %v, want %s or %s", ahead, links, i, why, before, after)
		}
		if got := told(m.Records()); got != before && got != after {
			t.Fatalf("%q ahead, %v: Open behind call %d: %s, want %s or %s", ahead, links, i, got, before, after)
		}
		l = m
	}
	// And the log that is left works.
	want := append(toldOf(l), "z")
	if l.Room() == 0 {
		want = want[:0]
		wantClear(t, "at the end", l, api.OK)
	} else {
		wantCommit(t, "at the end", l, []byte("z"), api.OK)
	}
	wantRecords(t, "at the end", opened(t, d, 0, count), want...)
}

// torn answers a cut that tears the first write, and loses the others.
func torn(bytes int) disk.Cut { return disk.Cut{Torn: 0, Bytes: bytes} }

// TestThreeCalls: P4.3, W2, three calls on end, the first and the last of them torn behind every byte, where the last one is torn over what the others left.
func TestThreeCalls(t *testing.T) {
	texts := [][3]string{{"a", "", "b"}, {"a", "", "a"}, {"a", "b", "a"}, {"", "a", ""}, {"a", "a", "a"}, {"", "", ""}}
	for _, text := range texts {
		for stop := range 6 {
			for first := range api.Sector + 1 {
				for step := range 6 {
					last := []int{first, first - 1, first + 1, first + api.Sector/2, first - api.Sector/2, api.Sector - first}[step]
					for _, between := range []int{43, 64, 120} {
						stops := [3]int{stop, (stop + step) % 6, stop}
						chained(t, 4, nil, []link{{text[0], stops[0], torn(first)}, {text[1], stops[1], torn(between)}, {text[2], stops[2], torn(last)}})
					}
				}
			}
		}
	}
}

// drawnLinks draws calls with few texts, of one size, and with cuts of which many are alike.
func drawnLinks(r *rand.Rand, count int) []link {
	texts := []string{"a", "b", "", string(full('c', 100)), string(full('d', 100))}
	var links []link
	for range count {
		bytes := r.Intn(api.Sector + 1)
		if len(links) > 0 && r.Intn(2) == 0 {
			bytes = links[r.Intn(len(links))].cut.Bytes
			if r.Intn(3) == 0 {
				bytes = (bytes + api.Sector/2) % api.Sector
			}
		}
		c := torn(bytes)
		if r.Intn(6) == 0 {
			c = drawnCut(r, 3)
		}
		links = append(links, link{texts[r.Intn(len(texts))], r.Intn(9), c})
	}
	return links
}

// TestManyCalls: P4.3, W2, three calls and more on end, with none between that is not crashed.
func TestManyCalls(t *testing.T) {
	r := rand.New(rand.NewSource(6))
	for range 20000 {
		var ahead []string
		for range r.Intn(3) {
			ahead = append(ahead, string(patterned(1+r.Intn(20), 3)))
		}
		chained(t, 4+r.Intn(3), ahead, drawnLinks(r, 3+r.Intn(10)))
	}
}

// TestWhateverIsLeft: P4.3, W2, calls on end, each on some of the disks that the one ahead could leave, crashed in every way.
func TestWhateverIsLeft(t *testing.T) {
	r := rand.New(rand.NewSource(7))
	small := []call{commits([]byte("a")), commits([]byte("b")), clears()}
	disks := []*disk.Disk{crashLog(t)}
	for depth := range 6 {
		var left []*disk.Disk
		for _, d := range disks {
			for _, c := range small {
				left = append(left, crashed(t, fmt.Sprintf("behind %d calls", depth), d, c, 1)...)
			}
		}
		disks = some(r, left, 24)
	}
}

// TestTwoCallsInFlight: P4.3, a call is stopped, the disk goes on without a crash, and a second call, of the log that is opened then, is crashed: what is found is what was acknowledged, with the first of them done or both, but never none, nor anything else.
func TestTwoCallsInFlight(t *testing.T) {
	small := []call{commits([]byte("b")), commits(patterned(150, 8)), clears()}
	for _, s := range starts(t) {
		for _, first := range small {
			for stop := range 8 {
				d := s.disk.Copy()
				l := opened(t, d, crashFrom, crashCount)
				d.Stop(stop)
				if first.do(d, l) == api.OK {
					continue
				}
				for _, second := range small {
					twoInFlight(t, fmt.Sprintf("%s, %s stopped after %d", s.name, first.name, stop), d, l, second)
				}
			}
		}
	}
}

// twoInFlight stops second after every number of Writes and Flushes, where one call of l is in flight already.
func twoInFlight(t *testing.T, what string, from *disk.Disk, l *wal.Log, second call) {
	t.Helper()
	for stop := range 12 {
		d := from.Copy()
		d.Stop(stop)
		m := opened(t, d, crashFrom, crashCount)
		allowed := []string{told(m.Records()), told(second.done(m.Records()))}
		if why := second.do(d, m); why == api.OK {
			allowed = allowed[1:]
		} else {
			allowed = append(allowed, told(l.Records()))
		}
		for _, c := range cutsOf(d.Pending(), 11) {
			e := d.Copy()
			e.Crash(c)
			at := fmt.Sprintf("%s, %s stopped after %d, %v", what, second.name, stop, c)
			got := found(t, at, e)
			if !slices.Contains(allowed, got) {
				t.Fatalf("%s: %s, want one of %q", at, got, allowed)
			}
		}
	}
}

// TestOvertaken: P4.1, P4.3, a log that another one of the same sectors has gone on behind, or that something else has written over, refuses, and what was acknowledged stays.
func TestOvertaken(t *testing.T) {
	calls := []call{commits([]byte("b")), commits(patterned(150, 8)), clears()}
	for _, s := range starts(t) {
		for _, first := range calls {
			for _, second := range calls {
				d := s.disk.Copy()
				l, m := opened(t, d, crashFrom, crashCount), opened(t, d, crashFrom, crashCount)
				had, want := told(l.Records()), told(first.done(l.Records()))
				if why := first.do(d, m); why != api.OK {
					t.Fatalf("%s, %s: %v", s.name, first.name, why)
				}
				was := image(d)
				if why := second.do(d, l); why != api.ErrDisk || image(d) != was || d.Pending() != 0 {
					t.Fatalf("%s, %s, then %s of the log that was overtaken: %v", s.name, first.name, second.name, why)
				}
				if told(l.Records()) != had || told(m.Records()) != want || found(t, s.name, d) != want {
					t.Fatalf("%s, %s, %s: other records", s.name, first.name, second.name)
				}
				cover(d, crashFrom, crashCount, make([]byte, api.Sector))
				if why := second.do(d, m); why != api.ErrDisk || found(t, s.name, d) != none {
					t.Fatalf("%s, %s, then %s over noughts: %v", s.name, first.name, second.name, why)
				}
			}
		}
	}
}
