package kv_test

import (
	"fmt"
	"slices"
	"testing"

	"deponent/api"
	"deponent/disk"
	"deponent/kv"
)

// crashSpaces are those that crashing calls change.
var crashSpaces = []byte{0, 1, 2, 254, 255}

// inSpaces answers the pairs of crashSpaces, and Used, which tells whether there are others.
func inSpaces(s *kv.Store) string {
	out := fmt.Sprintln("used", s.Used())
	for _, space := range crashSpaces {
		out += fmt.Sprintln(space, told(s, space, nil))
	}
	return out
}

// inSpaces answers what inSpaces must answer of a store.
func (b book) inSpaces() string {
	out := fmt.Sprintln("used", b.used())
	for _, space := range crashSpaces {
		out += fmt.Sprintln(space, b.space(space, ""))
	}
	return out
}

// none is what is found where there is no store.
const none = "none"

// found answers what Open finds, and tells that an Open that is stopped and crashed changes nothing.
func found(t *testing.T, what string, d *disk.Disk, stop int) string {
	t.Helper()
	d.Stop(stop)
	first, early := kv.Open(d, 5000)
	got := none
	if early == api.OK {
		got = inSpaces(first)
	}
	d.Crash(disk.Cut{Keep: []bool{stop%2 == 0}, Torn: 1, Bytes: 50})
	s, why := kv.Open(d, 5000)
	switch {
	case why == api.ErrDisk && s == nil && got == none:
		return none
	case why != api.OK:
		t.Fatalf("%s: Open: %v", what, why)
	case got != none && got != inSpaces(s):
		t.Fatalf("%s: opened again: %s, want %s", what, inSpaces(s), got)
	}
	return inSpaces(s)
}

// cutsOf answers choices of what is kept of so many writes: none, all, some; of each of them in turn, it alone, all but it, those ahead of it, and these with it torn, behind bytes that differ with seed.
func cutsOf(pending, seed int) []disk.Cut {
	l := []disk.Cut{{}, {Keep: slices.Repeat([]bool{true}, pending), Torn: -1}}
	if pending == 0 {
		return l[:1]
	}
	for _, odd := range []int{0, 1} {
		keep := make([]bool, pending)
		for k := range keep {
			keep[k] = k%2 == odd
		}
		l = append(l, disk.Cut{Keep: keep, Torn: (seed + odd) % pending, Bytes: 1 + seed*31%(api.Sector-1)})
	}
	for k := range pending {
		alone, others := make([]bool, pending), slices.Repeat([]bool{true}, pending)
		alone[k], others[k] = true, false
		ahead := slices.Repeat([]bool{true}, k)
		torn := 1 + (seed*17+k*41)%(api.Sector-1)
		l = append(l, disk.Cut{Keep: alone, Torn: -1}, disk.Cut{Keep: others, Torn: k, Bytes: torn}, disk.Cut{Keep: ahead, Torn: -1}, disk.Cut{Keep: ahead, Torn: k, Bytes: torn}, disk.Cut{Torn: k, Bytes: api.Sector - torn})
	}
	return l
}

// crashing is a call that is stopped and crashed, and what was there ahead of it.
type crashing struct {
	what    string
	before  book
	changes []kv.Change // none: Format
	hop     int         // how many cuts are left out between two
}

func (c crashing) after() book {
	if len(c.changes) == 0 {
		return book{}
	}
	return c.before.with(c.changes...)
}

func (c crashing) do(t *testing.T, d *disk.Disk, stop int) api.Errno {
	t.Helper()
	if len(c.changes) == 0 {
		d.Stop(stop)
		return kv.Format(d)
	}
	s := opened(t, d, 5000)
	d.Stop(stop)
	return s.Do(c.changes...)
}

// play plays the call, stopped after every number of Writes and Flushes, and crashed by those cuts.
func (c crashing) play(t *testing.T) {
	ahead := holding(t, c.before)
	before, after := c.before.inSpaces(), c.after().inSpaces()
	for stop := 0; ; stop++ {
		d := ahead.Copy()
		why := c.do(t, d, stop)
		what := fmt.Sprintf("%s, stopped after %d", c.what, stop)
		if why == api.OK {
			d.Crash(disk.Cut{})
			if got := found(t, what, d, 0); got != after {
				t.Fatalf("%s: acknowledged: %s, want %s", what, got, after)
			}
			return
		}
		if why != api.ErrDisk {
			t.Fatalf("%s: %v", what, why)
		}
		allowed := []string{before, after}
		if len(c.changes) == 0 {
			allowed = append(allowed, none)
		}
		cuts := cutsOf(d.Pending(), stop)
		for i := stop % (c.hop + 1); i < len(cuts); i += c.hop + 1 {
			e := d.Copy()
			if i%4 == 3 {
				seenEarly(t, what, e, i%3)
			}
			e.Crash(cuts[i])
			got := found(t, what, e, i%3)
			if !slices.Contains(allowed, got) {
				t.Fatalf("%s: %v: %s, want one of %q", what, cuts[i], got, allowed)
			}
			if i%7 == 0 && got != none {
				goesOn(t, what, e, got == after, c)
			}
		}
	}
}

// seenEarly tells that what Open finds ahead of a crash, if it takes the disk as it is, is what it finds behind one that keeps nothing.
func seenEarly(t *testing.T, what string, d *disk.Disk, stop int) {
	t.Helper()
	d.Stop(stop)
	s, why := kv.Open(d, 5000)
	if why != api.OK {
		return
	}
	e := d.Copy()
	e.Crash(disk.Cut{})
	if got := inSpaces(opened(t, e, 5000)); got != inSpaces(s) {
		t.Fatalf("%s: opened ahead of a crash: %s, and behind it: %s", what, inSpaces(s), got)
	}
}

// goesOn tells that a Do works on what was found, and that the bound is held against it.
func goesOn(t *testing.T, what string, d *disk.Disk, isDone bool, c crashing) {
	t.Helper()
	now := c.before
	if isDone {
		now = c.after()
	}
	more := put(254, "behind", "it")
	wantDo(t, what+", behind it", opened(t, d, now.used()+8), api.ErrFull, more)
	wantDo(t, what+", behind it", opened(t, d, now.used()+9), api.OK, more)
	d.Crash(disk.Cut{})
	if got := inSpaces(opened(t, d, 0)); got != now.with(more).inSpaces() {
		t.Fatalf("%s, behind it: %s, want %s", what, got, now.with(more).inSpaces())
	}
}

// crashings answers calls of all kinds: that put, drop and change, in one space and in several, on few pages and on more.
func crashings() []crashing {
	few := book{{0, "a"}: "1", {1, "a"}: letters(50), {1, "b"}: "2", {255, "\xff"}: letters(90)}
	some := book{}
	for n := range 12 {
		some = some.with(put(crashSpaces[n%5], fmt.Sprint("k", n), letters(300)))
	}
	var all []kv.Change
	for n := range api.MaxChanges {
		all = append(all, put(crashSpaces[n%5], fmt.Sprint("k", n%70), letters(n)))
	}
	return []crashing{
		{what: "the first pair", before: book{}, changes: []kv.Change{put(1, "a", "x")}},
		{what: "one key in two spaces", before: few, changes: []kv.Change{put(1, "k", "x"), put(2, "k", "y")}},
		{what: "put, changed and dropped", before: few, changes: []kv.Change{drop(0, "a"), put(1, "a", "2"), put(2, "a", letters(200)), drop(255, "\xff"), put(255, "\x00", "")}},
		{what: "one key, again and again", before: few, changes: []kv.Change{put(1, "a", "2"), drop(1, "a"), put(1, "a", letters(400)), put(1, "a", "3")}},
		{what: "the last pairs go", before: few, changes: []kv.Change{drop(0, "a"), drop(1, "a"), drop(1, "b"), drop(255, "\xff")}},
		{what: "nothing that changes", before: few, changes: []kv.Change{drop(2, "none"), put(0, "a", "1")}},
		{what: "several pages", before: some, changes: []kv.Change{drop(0, "k0"), put(1, "k1", "x"), put(254, "k", letters(400)), put(255, "k", letters(400))}, hop: 12},
		{what: "as many as may be", before: few, changes: all, hop: 12},
		{what: "Format of none", before: book{}, hop: 2},
		{what: "Format of few", before: few, hop: 4},
		{what: "Format of several pages", before: some, hop: 6},
	}
}

// TestCrashes: W2, P7.1, P7.2, a Do and a Format, stopped after every number of Writes and Flushes, and crashed; an Open behind it, stopped and crashed, and one more; a Do behind that.
func TestCrashes(t *testing.T) {
	for _, c := range crashings() {
		t.Run(c.what, func(t *testing.T) {
			t.Parallel()
			c.play(t)
		})
	}
}

// TestCrashesOfRefused: W2, W8, R3, a Do that is refused on a disk that stops is not in flight: whatever the crash, nothing has changed.
func TestCrashesOfRefused(t *testing.T) {
	want := book{{0, "a"}: "1", {1, "a"}: letters(50), {255, "b"}: "2"}
	d := holding(t, want)
	for want, l := range map[api.Errno][]kv.Change{
		api.ErrArg:  {put(1, "a", "2"), drop(0, "a"), put(2, "", "")},
		api.ErrFull: {drop(0, "a"), put(1, "a", "2"), put(2, "b", letters(400))},
	} {
		for stop := range 60 {
			s := opened(t, d, 100)
			d.Stop(stop)
			wantDo(t, "refused", s, want, l...)
			d.Crash(cutsOf(5, stop)[stop%10])
		}
	}
	wantBook(t, "refused", opened(t, d, 100), want)
}

// TestSeenMeanwhile: P7.2, a Do that the disk has refused is seen whole or not at all, even ahead of a crash, by this Store and by another one.
func TestSeenMeanwhile(t *testing.T) {
	before := book{{0, "a"}: "1", {1, "a"}: letters(300), {1, "b"}: letters(300), {255, "b"}: letters(300)}
	l := []kv.Change{put(1, "aa", letters(400)), drop(1, "b"), put(2, "k", letters(300)), put(254, "k", letters(300))}
	ahead := holding(t, before)
	for stop := 0; ; stop++ {
		d := ahead.Copy()
		s, other := opened(t, d, 5000), opened(t, d, 5000)
		d.Stop(stop)
		why := s.Do(l...)
		got := inSpaces(other)
		if got != before.with(l...).inSpaces() && (got != before.inSpaces() || why == api.OK) {
			t.Fatalf("stopped after %d: %v: %s", stop, why, got)
		}
		if inSpaces(s) != got {
			t.Fatalf("stopped after %d: one Store tells other pairs than another one", stop)
		}
		if why == api.OK {
			return
		}
	}
}
