package queue_test

import (
	"slices"
	"strings"
	"testing"

	"deponent/api"
	"deponent/queue"
)

// A queue is generic: its calls have these forms, whatever waits.
var (
	_ func() *queue.Queue[string]                             = queue.New[string]
	_ func(*queue.Queue[int], int) (int, bool, api.Errno)     = (*queue.Queue[int]).Push
	_ func(*queue.Queue[[3]int], [3]int) (int, bool)          = (*queue.Queue[[3]int]).Place
	_ func(*queue.Queue[entry], int) []entry                  = (*queue.Queue[entry]).Take
	_ func(*queue.Queue[any]) int                             = (*queue.Queue[any]).Len
	_ func(*queue.Queue[*int]) []*int                         = (*queue.Queue[*int]).All
	_ func(*queue.Queue[error], error) (int, bool, api.Errno) = (*queue.Queue[error]).Push
)

// entry is a struct that waits.
type entry struct {
	name string
	at   int
	on   bool
}

// textOf, numberOf, arrayOf and structOf answer for each i from 0 on another one, for 0 the zero value, and for the same i one that is alike, in memory of its own.
func textOf(i int) string { return strings.Repeat("a", i) }

func numberOf(i int) int {
	if i%2 == 1 {
		return -i
	}
	return i
}

// arrayOf answers arrays that differ in one of their elements, here or there.
func arrayOf(i int) [3]int {
	var a [3]int
	a[i%3] = i
	return a
}

// structOf answers structs that differ at times in one field alone.
func structOf(i int) entry { return entry{name: textOf(i / 4), at: i / 2 % 2, on: i%2 == 1} }

// some answers what of tells of begin up to below end.
func some[T comparable](of func(int) T, begin, end int) []T {
	var l []T
	for i := begin; i < end; i++ {
		l = append(l, of(i))
	}
	return l
}

func wantPush[T comparable](t *testing.T, q *queue.Queue[T], x T, place int, waited bool, why api.Errno) {
	t.Helper()
	gotPlace, gotWaited, gotWhy := q.Push(x)
	if gotPlace != place || gotWaited != waited || gotWhy != why {
		t.Fatalf("Push(%v): %d, %v, %d, not %d, %v, %d", x, gotPlace, gotWaited, gotWhy, place, waited, why)
	}
}

func wantPlace[T comparable](t *testing.T, q *queue.Queue[T], x T, place int, waits bool) {
	t.Helper()
	if gotPlace, gotWaits := q.Place(x); gotPlace != place || gotWaits != waits {
		t.Fatalf("Place(%v): %d, %v, not %d, %v", x, gotPlace, gotWaits, place, waits)
	}
}

func wantTake[T comparable](t *testing.T, q *queue.Queue[T], n int, want ...T) {
	t.Helper()
	if got := q.Take(n); !slices.Equal(got, want) {
		t.Fatalf("Take(%d): %v, not %v", n, got, want)
	}
}

// wantWaiting wants just these to wait, in this order; it asks twice, as asking changes nothing.
func wantWaiting[T comparable](t *testing.T, q *queue.Queue[T], want ...T) {
	t.Helper()
	for range 2 {
		if got := q.All(); q.Len() != len(want) || !slices.Equal(got, want) {
			t.Fatalf("there wait %d, %v, not %d, %v", q.Len(), got, len(want), want)
		}
		for place, x := range want {
			wantPlace(t, q, x, place, true)
		}
	}
}

// filled answers a queue in which the first n wait.
func filled[T comparable](t *testing.T, of func(int) T, n int) *queue.Queue[T] {
	t.Helper()
	q := queue.New[T]()
	for i := range n {
		wantPush(t, q, of(i), i, false, api.OK)
	}
	return q
}

// TestKindsDiffer: what the tests let wait are unlike ones, the first of them the zero value.
func TestKindsDiffer(t *testing.T) {
	wantUnlike(t, textOf)
	wantUnlike(t, numberOf)
	wantUnlike(t, arrayOf)
	wantUnlike(t, structOf)
}

func wantUnlike[T comparable](t *testing.T, of func(int) T) {
	t.Helper()
	var zero T
	seen := map[T]int{zero: 0}
	for i := 1; i < 300; i++ {
		seen[of(i)] = i
	}
	if of(0) != zero || len(seen) != 300 {
		t.Errorf("of 300 %T there are %d unlike ones, the first one %v", zero, len(seen), of(0))
	}
}

// TestRuns: the chapter's table.
func TestRuns(t *testing.T) {
	q := queue.New[string]()
	wantPush(t, q, "a", 0, false, api.OK)
	wantPush(t, q, "b", 1, false, api.OK)
	wantPush(t, q, "a", 0, true, api.OK)
	wantWaiting(t, q, "a", "b")
	wantTake(t, q, 1, "a")
	wantPlace(t, q, "b", 0, true)
	wantWaiting(t, q, "b")
}

// TestExamples: the chapter's examples.
func TestExamples(t *testing.T) {
	q := queue.New[string]()
	wantPush(t, q, "a", 0, false, api.OK)
	wantPush(t, q, "b", 1, false, api.OK)
	wantTake(t, q, -1)
	wantWaiting(t, q, "a", "b")
	wantTake(t, q, 1, "a")
	wantPush(t, q, "a", 1, false, api.OK)
	wantWaiting(t, q, "b", "a")

	m := filled(t, numberOf, 64)
	wantPush(t, m, numberOf(64), 0, false, api.ErrMany)
	wantWaiting(t, m, some(numberOf, 0, 64)...)
}

// TestNew: P15.1, nothing waits in a new queue, not even the zero value, and nothing comes out of it.
func TestNew(t *testing.T) {
	wantNew(t, textOf)
	wantNew(t, numberOf)
	wantNew(t, arrayOf)
	wantNew(t, structOf)
}

func wantNew[T comparable](t *testing.T, of func(int) T) {
	t.Helper()
	q := queue.New[T]()
	wantWaiting(t, q)
	for _, n := range []int{-1, 0, 1, 2, 64} {
		wantTake(t, q, n)
	}
	for i := range 70 {
		wantPlace(t, q, of(i), 0, false)
	}
	wantWaiting(t, q)
}

// TestApart: what waits in one queue waits in no other one.
func TestApart(t *testing.T) {
	a, b := queue.New[string](), queue.New[string]()
	if a == b {
		t.Fatal("New answers one queue twice")
	}
	wantPush(t, a, "x", 0, false, api.OK)
	wantPush(t, a, "y", 1, false, api.OK)
	wantWaiting(t, b)
	wantPush(t, b, "y", 0, false, api.OK)
	wantTake(t, a, 9, "x", "y")
	wantWaiting(t, a)
	wantWaiting(t, b, "y")
	wantWaiting(t, queue.New[string]())
}
