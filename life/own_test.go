package life_test

import (
	"math/rand"
	"slices"
	"testing"

	"deponent/life"
)

// asks are calls of Next, each state and each number that is none, with and without waiting.
func asks() [][2]int {
	var l [][2]int
	for _, from := range numbers() {
		for _, waiting := range []int{0, 1, 64, -1} {
			l = append(l, [2]int{from, waiting})
		}
	}
	return l
}

// whole answers a list's memory, its spare room too.
func whole(l []int) []int { return l[:cap(l)] }

// spoil writes x over all of a list, its spare room too.
func spoil(l []int, x int) {
	l = whole(l)
	for i := range l {
		l[i] = x
	}
}

// stays tells whether all of a list is x, its spare room too.
func stays(l []int, x int) bool {
	return !slices.ContainsFunc(whole(l), func(n int) bool { return n != x })
}

// TestNextIsNew: R2, each list that is answered is memory of its own, its spare room too: what is done to one changes no other one, and no later answer.
func TestNextIsNew(t *testing.T) {
	for _, a := range asks() {
		var lists [][]int
		for _, b := range append([][2]int{a, a}, asks()...) {
			lists = append(lists, life.Next(b[0], b[1]))
		}
		for i, l := range lists {
			spoil(l, -7-i)
		}
		for i, l := range lists {
			if !stays(l, -7-i) {
				t.Fatalf("behind Next(%d, %d): list %d shares memory: %v", a[0], a[1], i, whole(l))
			}
		}
		wantNext(t, a[0], a[1], wantedNext(a[0], a[1]))
	}
}

// TestNextStays: R2, no list that was answered changes by a later call of any kind, its spare room included.
func TestNextStays(t *testing.T) {
	for _, a := range asks() {
		got := life.Next(a[0], a[1])
		was := slices.Clone(whole(got))
		for _, b := range asks() {
			spoil(life.Next(b[0], b[1]), 99)
			for _, to := range states {
				life.May(b[0], to, b[1])
			}
			life.Adds(b[0])
			life.Serves(b[0])
			life.Runs(b[0])
		}
		if !slices.Equal(whole(got), was) {
			t.Fatalf("Next(%d, %d): %v has become %v", a[0], a[1], was, whole(got))
		}
	}
}

// TestAppendToNext: R2, who puts something behind a list that was answered changes nothing else.
func TestAppendToNext(t *testing.T) {
	for _, a := range asks() {
		want := wantedNext(a[0], a[1])
		first, second := life.Next(a[0], a[1]), life.Next(a[0], a[1])
		longer, other := append(first, 77, 78), append(second, 88, 89)
		if !slices.Equal(longer, slices.Concat(want, []int{77, 78})) || !slices.Equal(other, slices.Concat(want, []int{88, 89})) {
			t.Fatalf("of Next(%d, %d): %v and %v", a[0], a[1], longer, other)
		}
		wantNext(t, a[0], a[1], want)
	}
}

// TestSpareRoomIsClean: R4, nothing stands in the spare room of a list that is answered.
func TestSpareRoomIsClean(t *testing.T) {
	for _, a := range asks() {
		got := life.Next(a[0], a[1])
		if room := whole(got)[len(got):]; !stays(room, 0) {
			t.Errorf("Next(%d, %d): %v stands behind %v", a[0], a[1], room, got)
		}
	}
}

// TestSpoiltListsChangeNothing: R2, R4, behind lists that were written over all calls answer as ahead.
func TestSpoiltListsChangeNothing(t *testing.T) {
	for _, x := range states {
		for _, a := range asks() {
			spoil(life.Next(a[0], a[1]), x)
		}
		TestMay(t)
		TestNextWrittenOut(t)
		TestDeeds(t)
	}
}

// TestSameAgain: R4, the same calls in another order, with others between them, answer the same.
func TestSameAgain(t *testing.T) {
	type answer struct {
		may, adds, serves, runs bool
		next                    []int
	}
	all := asks()
	ask := func(i int) answer {
		from, waiting := all[i][0], all[i][1]
		return answer{life.May(from, all[i*7%len(all)][0], waiting), life.Adds(from), life.Serves(from), life.Runs(from), life.Next(from, waiting)}
	}
	var first []answer
	for i := range all {
		first = append(first, ask(i))
	}
	rnd := rand.New(rand.NewSource(172))
	for range 20 {
		for _, i := range rnd.Perm(len(all)) {
			x, was := ask(i), first[i]
			if x.may != was.may || x.adds != was.adds || x.serves != was.serves || x.runs != was.runs || !slices.Equal(x.next, was.next) {
				t.Fatalf("number %d answered %v, answers %v", i, was, x)
			}
		}
	}
}
