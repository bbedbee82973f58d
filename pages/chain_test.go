package pages_test

import (
	"fmt"
	"math/rand"
	"slices"
	"testing"

	"deponent/api"
	"deponent/disk"
	"deponent/pages"
)

// watched are the pages that the chains of this file put.
var watched = []int{0, 1, 7, 8, 256, 511}

// chain is a disk on which one call behind the other is stopped and crashed, and what must be found on it.
type chain struct {
	t    *testing.T
	disk *disk.Disk
	now  string // what was found last
	told []string
}

func newChain(t *testing.T) *chain {
	t.Helper()
	c := &chain{t: t, disk: formatted(t)}
	c.now = c.find()
	return c
}

// find answers what the watched pages are: none, or a letter for each; 0 is one that is noughts.
func (c *chain) find() string {
	c.t.Helper()
	s, why := pages.Open(c.disk)
	if why != api.OK {
		return none
	}
	out := ""
	for _, n := range watched {
		b, why := s.Read(n)
		letter := byte('?')
		if why == api.OK {
			letter = letterOf(b)
		}
		out += string(letter)
	}
	return out
}

// lettered answers a page by its letter: those of small ones begin with the same bytes, those of capitals have all sectors alike.
func lettered(letter byte) []byte {
	if letter >= 'a' {
		b := full(1, api.Page)
		b[api.Page-1] = letter
		return b
	}
	return full(letter, api.Page)
}

func letterOf(b []byte) byte {
	last := b[len(b)-1]
	switch {
	case slices.Equal(b, noughts):
		return '0'
	case slices.Equal(b, lettered(last)):
		return last
	}
	return '?'
}

// link is one call of a chain: a Put of a letter for each of some watched pages (0 leaves the page out), or, if there is none, a Format.
type link struct {
	letters [6]byte
	format  bool
	stop    int
	cut     disk.Cut
	goesOn  bool // without a crash
}

func (k link) sheets() []pages.Sheet {
	var l []pages.Sheet
	for i, letter := range k.letters {
		if letter != 0 {
			l = append(l, pages.Sheet{N: watched[i], B: lettered(letter)})
		}
	}
	return l
}

// done answers what is found if the link is done.
func (k link) done(now string) string {
	b := []byte(now)
	if k.format {
		b = []byte("000000")
	}
	for i, letter := range k.letters {
		if letter != 0 && !k.format {
			b[i] = letter
		}
	}
	return string(b)
}

// play plays a link, and tells that what is found behind it may be.
func (c *chain) play(k link) {
	c.t.Helper()
	k.format = k.format || c.now == none
	c.told = append(c.told, fmt.Sprintf("%s: %+v", c.now, k))
	why := c.do(k)
	allowed := []string{k.done(c.now)}
	if why != api.OK {
		allowed = append(allowed, c.now)
		if k.format {
			allowed = append(allowed, none)
		}
	}
	if k.goesOn {
		c.disk.Stop(1 << 20)
	} else {
		c.disk.Crash(k.cut)
	}
	got := c.find()
	if !slices.Contains(allowed, got) || why != api.OK && why != api.ErrDisk {
		c.t.Fatalf("%v: %s, want one of %v, behind\n%v", why, got, allowed, c.told[max(0, len(c.told)-6):])
	}
	c.now = got
}

func (c *chain) do(k link) api.Errno {
	c.t.Helper()
	if k.format {
		c.disk.Stop(k.stop)
		return pages.Format(c.disk)
	}
	s := opened(c.t, c.disk)
	c.disk.Stop(k.stop)
	return s.Put(k.sheets()...)
}

// drawnCut draws what is kept, and what is torn: at bytes that were met before, often.
func drawnCut(r *rand.Rand, bytes *int) disk.Cut {
	if r.Intn(3) == 0 {
		*bytes = r.Intn(api.Sector + 1)
	} else if r.Intn(3) == 0 {
		*bytes = (*bytes + api.Sector/2) % api.Sector
	}
	c := disk.Cut{Torn: r.Intn(20), Bytes: *bytes}
	if r.Intn(2) == 0 {
		c.Torn = 0
	}
	switch r.Intn(4) {
	case 0:
		for range r.Intn(50) {
			c.Keep = append(c.Keep, r.Intn(3) > 0)
		}
	case 1:
		c.Keep = slices.Repeat([]bool{true}, 50)
	case 2:
		c.Keep = slices.Repeat([]bool{true}, r.Intn(20))
		c.Torn = len(c.Keep)
	}
	return c
}

// drawnLink draws a call. It has few letters, so that pages are put again as they were.
func drawnLink(r *rand.Rand, formats int, bytes *int) link {
	k := link{stop: r.Intn(70), format: r.Intn(100) < formats, goesOn: r.Intn(10) == 0}
	for range 1 + r.Intn(3) {
		k.letters[r.Intn(len(watched))] = "ABab"[r.Intn(4)]
	}
	if r.Intn(3) == 0 {
		k.stop = 16 + r.Intn(20)
	}
	if k.format && r.Intn(2) == 0 {
		k.stop = r.Intn(8)
	}
	k.cut = drawnCut(r, bytes)
	return k
}

// TestManyCalls: P5.3, W2, many calls on end, each stopped, and crashed but for a few, with none between that is not; first Puts alone, then Formats too.
func TestManyCalls(t *testing.T) {
	for seed := range 8 {
		t.Run(fmt.Sprint(seed), func(t *testing.T) {
			t.Parallel()
			r := rand.New(rand.NewSource(int64(seed)))
			bytes := 64
			c := newChain(t)
			for range 10000 {
				c.play(drawnLink(r, seed%4*10, &bytes))
			}
		})
	}
}

// TestThreePuts: P5.3, W2, three Puts on end, each stopped where the log is written, and torn behind every byte.
func TestThreePuts(t *testing.T) {
	c := newChain(t)
	for first := range api.Sector + 1 {
		for step := range 12 {
			stops := [3]int{8 + step, 8 + (step*5+first)%12, 8 + step}
			last := []int{first, api.Sector - first, (first + api.Sector/2) % api.Sector}[step%3]
			for i, bytes := range []int{first, 64, last} {
				letters := [6]byte{}
				letters[(first+i)%2] = "ABA"[i]
				c.play(link{letters: letters, stop: stops[i], cut: disk.Cut{Torn: 0, Bytes: bytes}})
			}
		}
	}
}

// TestThreeFormats: P5.3, three Formats on end, each stopped at its first or its last writes, torn behind every byte.
func TestThreeFormats(t *testing.T) {
	c := newChain(t)
	for first := range api.Sector + 1 {
		for step := range 14 {
			if c.now != none {
				c.play(link{letters: [6]byte{'a', 'b'}, stop: 1000})
			}
			last := []int{first, api.Sector - first, (first + api.Sector/2) % api.Sector}[step%3]
			for i, bytes := range []int{first, 64, last} {
				c.play(link{format: true, stop: (step + i*i*first) % 14, cut: disk.Cut{Torn: 0, Bytes: bytes}})
			}
			if first%3 == 0 {
				c.play(link{format: true, stop: 1000})
			}
		}
	}
}

// TestGoingOnWithoutACrash: P5.3, W2, a Put is stopped, the disk goes on, and the Open behind it, stopped or not, finds what a crash does not take back any more.
func TestGoingOnWithoutACrash(t *testing.T) {
	k := link{letters: [6]byte{'A', 0, 'b'}}
	for stop := range 60 {
		for _, again := range []int{0, 1, 1000} {
			c := newChain(t)
			c.play(link{letters: [6]byte{'a', 'a', 'a'}, stop: 1000})
			k.stop = stop
			s := opened(t, c.disk)
			c.disk.Stop(stop)
			if s.Put(k.sheets()...) == api.OK {
				return
			}
			allowed := []string{c.now, k.done(c.now)}
			c.disk.Stop(again)
			if got := c.find(); got != none {
				allowed = []string{got}
			} else if again > 1 {
				t.Fatalf("stopped after %d: Open found none", stop)
			}
			c.disk.Crash(disk.Cut{})
			if got := c.find(); !slices.Contains(allowed, got) {
				t.Fatalf("stopped after %d, Open after %d: %s, want one of %v", stop, again, got, allowed)
			}
		}
	}
}

// TestSeenMeanwhile: P5.2, a Put that the disk has refused is seen whole or not at all by another Store, even ahead of a crash, and that Store goes on.
func TestSeenMeanwhile(t *testing.T) {
	for stop := range 60 {
		d, s := fresh(t)
		wantPut(t, "ahead", s, api.OK, sheets(1, 0, 1, 2)...)
		other := opened(t, d)
		before := bookOf(t, s)
		l := sheets(30, 2, 0, 9)
		d.Stop(stop)
		why := s.Put(l...)
		now := bookOf(t, other)
		if got := now.String(); got != before.with(l...).String() && (got != before.String() || why == api.OK) {
			t.Fatalf("stopped after %d: %v: %s", stop, why, got)
		}
		d.Stop(1000)
		wantPut(t, "another Store", other, api.OK, sheet(1, 50))
		d.Crash(disk.Cut{})
		wantBook(t, fmt.Sprintf("stopped after %d", stop), opened(t, d), now.with(sheet(1, 50)))
	}
}

// TestTwoPutsInFlight: P5.3, W2, a Put is stopped, the disk goes on without a crash or an Open, a Put of another Store is stopped behind it, and the disk crashes: each of them is done whole, or not at all.
func TestTwoPutsInFlight(t *testing.T) {
	r := rand.New(rand.NewSource(9))
	c := newChain(t)
	bytes := 64
	for round := range 20000 {
		first, second := drawnLink(r, 0, &bytes), drawnLink(r, 0, &bytes)
		s, other := opened(t, c.disk), opened(t, c.disk)
		c.disk.Stop(first.stop)
		done := s.Put(first.sheets()...) == api.OK
		c.disk.Stop(second.stop)
		all := other.Put(second.sheets()...) == api.OK
		c.disk.Crash(second.cut)
		allowed := []string{c.now, first.done(c.now), second.done(c.now), second.done(first.done(c.now))}
		switch {
		case done && all:
			allowed = allowed[3:]
		case done:
			allowed = []string{allowed[1], allowed[3]}
		case all:
			allowed = allowed[2:]
		}
		got := c.find()
		if !slices.Contains(allowed, got) {
			t.Fatalf("round %d: %s, want one of %v, behind\n%+v\n%+v", round, got, allowed, first, second)
		}
		c.now = got
	}
}
