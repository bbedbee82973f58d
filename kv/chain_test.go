package kv_test

import (
	"fmt"
	"math/rand"
	"slices"
	"testing"

	"deponent/api"
	"deponent/disk"
	"deponent/kv"
)

// drawnCut draws what is kept, and what is torn.
func drawnCut(r *rand.Rand) disk.Cut {
	c := disk.Cut{Torn: r.Intn(30) - 1, Bytes: r.Intn(api.Sector+10) - 5}
	switch r.Intn(4) {
	case 0:
		for range r.Intn(80) {
			c.Keep = append(c.Keep, r.Intn(3) > 0)
		}
	case 1:
		c.Keep = slices.Repeat([]bool{true}, 2000)
	case 2:
		c.Keep = slices.Repeat([]bool{true}, r.Intn(30))
		c.Torn = len(c.Keep)
	}
	return c
}

// drawnChanges draws changes of few keys in few spaces, now and then a wrong one among them.
func drawnChanges(r *rand.Rand) []kv.Change {
	var l []kv.Change
	for range r.Intn(1 + r.Intn(14)) {
		c := put(crashSpaces[r.Intn(5)], fmt.Sprint(r.Intn(8)), letters([]int{r.Intn(3), r.Intn(100), 350 + r.Intn(51)}[r.Intn(3)]))
		switch r.Intn(40) {
		case 0:
			c.Key = c.Key[:0]
		case 1:
			c.Value = []byte(letters(api.MaxValue + 1))
		case 2:
			c.Key = []byte(letters(api.MaxKey))
		}
		c.Drop = r.Intn(3) == 0
		l = append(l, c)
	}
	if r.Intn(40) == 0 {
		l = append(l, slices.Repeat([]kv.Change{put(1, "k", "")}, api.MaxChanges)...)
	}
	return l
}

// refusal answers what must be refused, whatever the disk does.
func refusal(b book, bound int, l []kv.Change) api.Errno {
	for _, c := range l {
		if len(c.Key) == 0 || len(c.Key) >= api.MaxKey || len(c.Value) > api.MaxValue {
			return api.ErrArg
		}
	}
	if len(l) > api.MaxChanges {
		return api.ErrArg
	}
	if now := b.with(l...).used(); now > bound && now > b.used() {
		return api.ErrFull
	}
	return api.OK
}

// TestManyCalls: W2, P7.1 to P7.4, many calls on end on one disk, with bounds that change, on a disk that stops and crashes: for each Do in flight there is a choice, done or not done, by which all answers are those of a book.
func TestManyCalls(t *testing.T) {
	for seed := range 8 {
		t.Run(fmt.Sprint(seed), func(t *testing.T) {
			t.Parallel()
			r := rand.New(rand.NewSource(int64(seed)))
			d := formatted(t)
			now := book{}
			seen := map[api.Errno]int{}
			for range 300 {
				bound := []int{0, r.Intn(500), 3000, api.MaxStore}[r.Intn(4)]
				s := opened(t, d, bound)
				d.Stop(r.Intn(50 + r.Intn(1000)))
				for range 1 + r.Intn(6) {
					l := drawnChanges(r)
					why, want := s.Do(l...), refusal(now, bound, l)
					seen[why]++
					if why == api.ErrDisk && want == api.OK {
						d.Crash(drawnCut(r))
						s = opened(t, d, bound)
						if inSpaces(s) == now.with(l...).inSpaces() {
							now = now.with(l...)
						}
					} else if why != want {
						t.Fatalf("Do of %v: %v, want %v", l, why, want)
					} else if why == api.OK {
						now = now.with(l...)
					}
					if got := inSpaces(s); got != now.inSpaces() {
						t.Fatalf("%v: %s, want %s", why, got, now.inSpaces())
					}
				}
				d.Crash(drawnCut(r))
			}
			wantBook(t, "in the end", opened(t, d, 0), now)
			for _, why := range []api.Errno{api.OK, api.ErrArg, api.ErrFull, api.ErrDisk} {
				if seen[why] < 20 {
					t.Fatalf("%v was answered %d times alone", why, seen[why])
				}
			}
		})
	}
}
