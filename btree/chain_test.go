package btree_test

import (
	"fmt"
	"math/rand"
	"slices"
	"testing"

	"deponent/api"
	"deponent/btree"
	"deponent/disk"
)

// drawnCut draws what is kept, and what is torn.
func drawnCut(r *rand.Rand) disk.Cut {
	c := disk.Cut{Torn: r.Intn(30) - 1, Bytes: r.Intn(api.Sector+10) - 5}
	switch r.Intn(4) {
	case 0:
		for range r.Intn(80) {
			c.Keep = append(c.Keep, r.Intn(3) > 0)
		}
	case 1:
		c.Keep = slices.Repeat([]bool{true}, 2000)
	case 2:
		c.Keep = slices.Repeat([]bool{true}, r.Intn(30))
		c.Torn = len(c.Keep)
	}
	return c
}

// drawnChanges draws changes of few keys, with values of which two, or twenty, or hundreds fit a page.
func drawnChanges(r *rand.Rand, keys int) []btree.Change {
	var l []btree.Change
	for range 1 + r.Intn(1+r.Intn(12)) {
		k := fmt.Sprintf("%02d", r.Intn(keys))
		if r.Intn(3) == 0 {
			l = append(l, drop(k))
		} else {
			l = append(l, put(k, letters([]int{r.Intn(3), r.Intn(100), 350 + r.Intn(51)}[r.Intn(3)])))
		}
	}
	return l
}

// TestManyCalls: P6.4, W2, many calls on end on one disk, each stopped, and crashed but for a few, with none between that is not; with Formats between them, or without.
func TestManyCalls(t *testing.T) {
	for seed := range 8 {
		t.Run(fmt.Sprint(seed), func(t *testing.T) {
			t.Parallel()
			r := rand.New(rand.NewSource(int64(seed)))
			d := formatted(t)
			now, has := book{}, true
			keys := []int{8, 20, 40, 90}[seed/2]
			for step := range 12000 / keys {
				isFormat := !has || seed%2 == 1 && r.Intn(20) == 0
				l := drawnChanges(r, keys)
				after := now.with(l...)
				if isFormat {
					after = book{}
				}
				why := stopped(t, d, r.Intn(30+r.Intn(200)), isFormat, l)
				allowed := []string{after.String()}
				if why != api.OK {
					allowed = append(allowed, now.String())
				}
				if !has || why != api.OK && isFormat {
					allowed = append(allowed, none)
				}
				if r.Intn(10) == 0 {
					d.Stop(1 << 20)
				} else {
					d.Crash(drawnCut(r))
				}
				got := found(t, "a chain", d, r.Intn(1+r.Intn(1000)))
				if !slices.Contains(allowed, got) {
					t.Fatalf("step %d: %v: %s, want one of %q", step, why, got, allowed)
				}
				has = got != none
				if got == after.String() {
					now = after
				}
				if !has {
					now = book{}
				}
			}
		})
	}
}

// stopped does changes, or a Format, on a disk that stops.
func stopped(t *testing.T, d *disk.Disk, stop int, isFormat bool, l []btree.Change) api.Errno {
	t.Helper()
	if isFormat {
		d.Stop(stop)
		return btree.Format(d)
	}
	x := opened(t, d)
	d.Stop(stop)
	return x.Do(l...)
}

// TestOneTreeGoesOn: P6.4, a Tree does call upon call, and the disk crashes only now and then.
func TestOneTreeGoesOn(t *testing.T) {
	r := rand.New(rand.NewSource(99))
	d, x := fresh(t)
	now := book{}
	for range 300 {
		d.Stop(r.Intn(2000))
		for {
			l := drawnChanges(r, 60)
			after := now.with(l...)
			why := x.Do(l...)
			if why == api.OK {
				now = after
				continue
			}
			d.Crash(drawnCut(r))
			x = opened(t, d)
			if got := told(x, nil, nil); got == after.String() {
				now = after
			} else if got != now.String() {
				t.Fatalf("%v: %s, want %s or %s", why, got, now, after)
			}
			break
		}
	}
	wantBook(t, "in the end", x, now)
}
