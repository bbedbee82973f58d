package compact_test

import (
	"bytes"
	"fmt"
	"math/rand"
	"slices"
	"testing"

	"deponent/api"
	"deponent/compact"
)

// roomy is r with room behind its hashes, and the whole of their memory.
func roomy(rnd *rand.Rand, r compact.Range) (compact.Range, []api.Digest) {
	whole := slices.Concat(r.Hashes, someDigests(rnd, 70))
	r.Hashes = whole[:len(r.Hashes)]
	return r, whole
}

// spoil changes all of a list, its spare room too.
func spoil(l []api.Digest) {
	l = l[:cap(l)]
	for i := range l {
		l[i][i%32] ^= 0x77
	}
}

// meetings are places where ranges begin, meet and end: where nothing is put together, some, all; at the ends; with none ahead and none behind.
var meetings = [][3]uint64{
	{0, 0, 0}, {5, 5, 5}, {last, last, last}, {0, 0, 7}, {0, 7, 7}, {3, 3, 10}, {3, 10, 10}, {0, 1, 2}, {1, 2, 3}, {0, 5, 8}, {0, 8, 12},
	{3, 5, 7}, {1, 4, 6}, {1, 100, 300}, {1, 1 << 31, last - 1}, {0, last - 1, last}, {0, 1 << 31, last},
}

// someMeeting answers two right ranges that meet.
func someMeeting(rnd *rand.Rand, m [3]uint64) (a, b compact.Range) {
	return someRange(rnd, m[0], m[1]), someRange(rnd, m[1], m[2])
}

// answers tells what the calls that take ranges answer.
func answers(w int, a, b compact.Range, leaf api.Digest) string {
	x, why := compact.Add(w, a, leaf)
	told := fmt.Sprintln(x, int(why))
	x, why = compact.Merge(w, a, b)
	told += fmt.Sprintln(x, int(why))
	x, why = compact.Merge(w, b, a)
	told += fmt.Sprintln(x, int(why))
	d, why := compact.Root(w, a)
	return told + fmt.Sprintln(d, int(why))
}

// TestRangesAreLeft: R2, no call changes the hashes of a range, nor the room behind them, be it refused or not; nor do answers hang on that room.
func TestRangesAreLeft(t *testing.T) {
	rnd := rand.New(rand.NewSource(121))
	for _, m := range meetings {
		for _, w := range widths {
			tight, other := someMeeting(rnd, m)
			leaf := someDigest(rnd)
			a, whole := roomy(rnd, tight)
			b, wholeB := roomy(rnd, other)
			was, wasB := slices.Clone(whole), slices.Clone(wholeB)
			if answers(w, a, b, leaf) != answers(w, tight, other, leaf) {
				t.Fatalf("width %d, %v: an answer hangs on room", w, m)
			}
			long, longer := a, b
			long.Hashes, longer.Hashes = whole[:len(a.Hashes)+1], wholeB[:len(b.Hashes)+3]
			answers(w, long, b, leaf)
			answers(w, a, longer, leaf)
			if !slices.Equal(whole, was) || !slices.Equal(wholeB, wasB) {
				t.Fatalf("width %d, %v: what was handed in was changed", w, m)
			}
		}
	}
}

// TestRangesAreNotKept: R2, neither what was answered nor later answers hang on what was handed in earlier.
func TestRangesAreNotKept(t *testing.T) {
	rnd := rand.New(rand.NewSource(122))
	for _, m := range meetings {
		tight, other := someMeeting(rnd, m)
		leaf := someDigest(rnd)
		a, whole := roomy(rnd, tight)
		b, wholeB := roomy(rnd, other)
		want := answers(32, tight, other, leaf)
		added, _ := compact.Add(32, a, leaf)
		merged, _ := compact.Merge(32, a, b)
		wasAdded, wasMerged := clone(added), clone(merged)
		spoil(whole)
		spoil(wholeB)
		if !same(added, wasAdded) || !same(merged, wasMerged) {
			t.Fatalf("%v: an answer hangs on what was handed in", m)
		}
		if answers(32, tight, other, leaf) != want {
			t.Fatalf("%v: an answer hangs on an earlier call", m)
		}
	}
}

// TestAnswersAreNew: R2, an answer is memory of its own, its spare room too: changed, neither what was handed in, nor another answer, nor a later one is.
func TestAnswersAreNew(t *testing.T) {
	rnd := rand.New(rand.NewSource(123))
	for _, m := range meetings {
		tight, other := someMeeting(rnd, m)
		a, whole := roomy(rnd, tight)
		b, wholeB := roomy(rnd, other)
		was, wasB := slices.Clone(whole), slices.Clone(wholeB)
		leaf := someDigest(rnd)
		for name, call := range map[string]func() compact.Range{
			"Add":   func() compact.Range { r, _ := compact.Add(32, a, leaf); return r },
			"Merge": func() compact.Range { r, _ := compact.Merge(32, a, b); return r },
			"Empty": func() compact.Range { return compact.Empty(m[0]) },
			"Of":    func() compact.Range { r, _ := compact.Of(32, listOf(20), min(m[0], 20), min(m[2], 20)); return r },
		} {
			first, second := call(), call()
			want := clone(second)
			spoil(first.Hashes)
			if !same(second, want) || !same(call(), want) {
				t.Errorf("%s, %v: answers share memory", name, m)
			}
			if !slices.Equal(whole, was) || !slices.Equal(wholeB, wasB) {
				t.Fatalf("%s, %v: an answer shares memory with what was handed in", name, m)
			}
		}
	}
}

// TestBlocksAreNew: R2, sizes that were answered are memory of their own.
func TestBlocksAreNew(t *testing.T) {
	for _, m := range meetings {
		first, second := compact.Blocks(m[0], m[2]), compact.Blocks(m[0], m[2])
		for i := range first[:cap(first)] {
			first[:cap(first)][i] = 77
		}
		if want := wantedBlocks(m[0], m[2]); !slices.Equal(second, want) || !slices.Equal(compact.Blocks(m[0], m[2]), want) {
			t.Errorf("%v: answers share memory", m)
		}
	}
}

// TestListsAreLeft: R2, Of changes neither the list nor a leaf, nor the room behind them, and keeps none of it.
func TestListsAreLeft(t *testing.T) {
	room := bytes.Repeat([]byte("0123456789abcdef"), 40)
	whole := make([][]byte, 45)
	for i := range whole {
		whole[i] = room[7*i : 7*i+(i+1)%10] // so that the next leaf lies in the room behind this one
	}
	wasRoom, l := bytes.Clone(room), whole[:40]
	var got, want []compact.Range
	for begin := range uint64(42) {
		for end := range uint64(42) {
			r, _ := compact.Of(31, l, begin, end)
			got, want = append(got, r), append(want, clone(r))
		}
	}
	if !bytes.Equal(room, wasRoom) {
		t.Error("a leaf was changed")
	}
	for i := range whole {
		if b := whole[i]; len(b) != (i+1)%10 || cap(b) != cap(room)-7*i || &b[:1][0] != &room[7*i] {
			t.Errorf("leaf %d of the list was changed", i)
		}
	}
	for i := range room {
		room[i] ^= 0x77
	}
	clear(whole)
	for i := range got {
		if !same(got[i], want[i]) {
			t.Fatal("an answer hangs on what was handed in")
		}
	}
}

// TestSharedMemory: R2, ranges whose hashes lie over one another are like others.
func TestSharedMemory(t *testing.T) {
	rnd := rand.New(rand.NewSource(124))
	room := someDigests(rnd, 70)
	was := slices.Clone(room)
	for _, m := range meetings {
		a, b := someMeeting(rnd, m)
		for shift := range 4 {
			a.Hashes, b.Hashes = room[:len(a.Hashes)], room[shift:shift+len(b.Hashes)]
			if answers(2, a, b, room[1]) != answers(2, clone(a), clone(b), room[1]) {
				t.Errorf("%v: answered otherwise where memory is shared", m)
			}
		}
	}
	if !slices.Equal(room, was) {
		t.Error("what was handed in was changed")
	}
}

// TestNilIsEmpty: R4, nil and empty lists and leaves mean the same to every call.
func TestNilIsEmpty(t *testing.T) {
	for _, w := range widths {
		for _, begin := range ends {
			for _, end := range ends {
				a, b := compact.Range{Begin: begin, End: end}, compact.Range{Begin: begin, End: end, Hashes: []api.Digest{}}
				if answers(w, a, a, api.Digest{1}) != answers(w, b, b, api.Digest{1}) {
					t.Fatalf("width %d, %d to %d: nil hashes are not like empty ones", w, begin, end)
				}
				x, why := compact.Of(w, nil, begin, end)
				y, because := compact.Of(w, [][]byte{}, begin, end)
				if !same(x, y) || why != because {
					t.Fatalf("width %d, Of none from %d to %d: %v, %v", w, begin, end, why, because)
				}
			}
		}
		x, _ := compact.Of(w, make([][]byte, 5), 1, 5)
		y, _ := compact.Of(w, [][]byte{{}, {}, {}, {}, {}}, 1, 5)
		if !same(x, y) {
			t.Errorf("width %d: nil leaves are not like empty ones", w)
		}
	}
}

// anyRange has any ends, and as many hashes as its blocks, or as many as may be.
func anyRange(rnd *rand.Rand) compact.Range {
	r := someRange(rnd, ends[rnd.Intn(len(ends))], ends[rnd.Intn(len(ends))])
	if rnd.Intn(4) == 0 {
		r.Hashes = someDigests(rnd, rnd.Intn(70))
	}
	return r
}

// wantedWhy goes by the words of the chapter.
func wantedWhy(a, b compact.Range) (add, merge, root api.Errno) {
	if !isRight(a) {
		return api.ErrArg, api.ErrArg, api.ErrArg
	}
	if a.End == last {
		add = api.ErrArg
	}
	if a.Begin != 0 {
		root = api.ErrRange
	}
	switch {
	case !isRight(b):
		merge = api.ErrArg
	case a.End != b.Begin:
		merge = api.ErrRange
	}
	return add, merge, root
}

// TestAnything: R1 and P10.3, every call ends, and is refused as the chapter says, whatever it is given.
func TestAnything(t *testing.T) {
	rnd := rand.New(rand.NewSource(125))
	met := map[api.Errno]int{}
	for range 20000 {
		w, a, b := widths[rnd.Intn(len(widths))], anyRange(rnd), anyRange(rnd)
		if rnd.Intn(2) == 0 {
			b = someRange(rnd, a.End, ends[rnd.Intn(len(ends))])
		}
		add, merge, root := wantedWhy(a, b)
		if _, why := compact.Add(w, a, someDigest(rnd)); why != add {
			t.Fatalf("Add to %v: %v, not %v", a, why, add)
		}
		if _, why := compact.Merge(w, a, b); why != merge {
			t.Fatalf("Merge of %v and %v: %v, not %v", a, b, why, merge)
		}
		if _, why := compact.Root(w, a); why != root {
			t.Fatalf("Root of %v: %v, not %v", a, why, root)
		}
		met[merge]++
	}
	if met[api.OK] < 100 || met[api.ErrArg] < 100 || met[api.ErrRange] < 100 {
		t.Errorf("%v: the test tells too little", met)
	}
}

// TestFarTooManyHashes: R1, a range with far too many hashes is refused without going through them.
func TestFarTooManyHashes(t *testing.T) {
	long := make([]api.Digest, 1<<20)
	for range 1000 {
		r := compact.Range{Begin: 0, End: last - 1, Hashes: long}
		_, a := compact.Add(32, r, api.Digest{})
		_, b := compact.Merge(32, r, r)
		if _, c := compact.Root(32, r); a != api.ErrArg || b != api.ErrArg || c != api.ErrArg {
			t.Fatalf("%v, %v, %v", a, b, c)
		}
	}
}
