package queue_test

import (
	"math/rand"
	"slices"
	"testing"

	"deponent/api"
	"deponent/queue"
)

// line is a queue by the words of the chapter, on a plain list.
type line[T comparable] struct{ waiting []T }

func (l *line[T]) place(x T) (int, bool) {
	for i, y := range l.waiting {
		if y == x {
			return i, true
		}
	}
	return 0, false
}

func (l *line[T]) push(x T) (int, bool, api.Errno) {
	if i, waits := l.place(x); waits {
		return i, true, api.OK
	}
	if len(l.waiting) == 64 {
		return 0, false, api.ErrMany
	}
	l.waiting = slices.Concat(l.waiting, []T{x})
	return len(l.waiting) - 1, false, api.OK
}

func (l *line[T]) take(n int) []T {
	var taken []T
	for ; n > 0 && len(l.waiting) > 0; n-- {
		taken = append(taken, l.waiting[0])
		l.waiting = slices.Clone(l.waiting[1:])
	}
	return taken
}

// both are a queue and a plain list, to which the same is done.
type both[T comparable] struct {
	q *queue.Queue[T]
	l *line[T]
}

func newBoth[T comparable]() both[T] { return both[T]{q: queue.New[T](), l: &line[T]{}} }

func (b both[T]) push(t *testing.T, x T) {
	t.Helper()
	place, waited, why := b.l.push(x)
	wantPush(t, b.q, x, place, waited, why)
}

func (b both[T]) take(t *testing.T, n int) {
	t.Helper()
	wantTake(t, b.q, n, b.l.take(n)...)
}

func (b both[T]) place(t *testing.T, x T) {
	t.Helper()
	place, waits := b.l.place(x)
	wantPlace(t, b.q, x, place, waits)
}

// TestChains: P15.1, P15.2, long runs of calls, drawn by fixed seeds, in queues that grow full and empty by turns.
func TestChains(t *testing.T) {
	for seed := range int64(6) {
		wantChain(t, textOf, seed)
		wantChain(t, numberOf, seed)
		wantChain(t, arrayOf, seed)
		wantChain(t, structOf, seed)
	}
}

func wantChain[T comparable](t *testing.T, of func(int) T, seed int64) {
	t.Helper()
	rnd := rand.New(rand.NewSource(1500 + seed))
	b := newBoth[T]()
	full, empty, repeated := 0, 0, 0
	for step := range 5000 {
		pushes := 29 // of 30, while it fills
		if step/250%2 == 1 {
			pushes = 15
		}
		if x := of(rnd.Intn(100)); rnd.Intn(30) < pushes {
			if _, waits := b.l.place(x); waits {
				repeated++
			}
			b.push(t, x)
		} else {
			b.take(t, someTake(rnd))
		}
		b.place(t, of(rnd.Intn(100)))
		wantWaiting(t, b.q, b.l.waiting...)
		full, empty = full+b.q.Len()/64, empty+max(1-b.q.Len(), 0)
	}
	if full < 100 || empty < 100 || repeated < 100 {
		t.Errorf("seed %d: full %d times, empty %d times, %d came while they waited", seed, full, empty, repeated)
	}
}

// someTake is few, or none, and seldom many.
func someTake(rnd *rand.Rand) int {
	switch rnd.Intn(20) {
	case 0:
		return rnd.Intn(80)
	case 1:
		return -rnd.Intn(80)
	}
	return rnd.Intn(5)
}

// TestManyInTurns: P15.2, a hundred thousand unlike ones go through a queue in order, however many wait meanwhile.
func TestManyInTurns(t *testing.T) {
	for _, waiting := range []int{0, 1, 2, 31, 62, 63} {
		q := filled(t, numberOf, waiting)
		for i := range 100000 {
			wantPush(t, q, numberOf(waiting+i), waiting, false, api.OK)
			wantTake(t, q, 1, numberOf(i))
			wantPlace(t, q, numberOf(i), 0, false)
		}
		wantWaiting(t, q, some(numberOf, 100000, 100000+waiting)...)
	}
}

// TestShortRuns: P15.1, P15.2, every run of a few calls out of eight, in a queue that is empty, and in one that is almost full.
func TestShortRuns(t *testing.T) {
	for _, x := range []struct{ already, calls int }{{0, 6}, {1, 5}, {62, 5}} {
		for run := range 1 << (3 * x.calls) {
			b := both[int]{q: filled(t, hundredAnd, x.already), l: &line[int]{waiting: some(hundredAnd, 0, x.already)}}
			for rest, left := run, x.calls; left > 0; rest, left = rest/8, left-1 {
				call(t, b, rest%8)
				if got := b.q.All(); b.q.Len() != len(got) || !slices.Equal(got, b.l.waiting) {
					t.Fatalf("%d waited, run %o: %v, not %v", x.already, run, got, b.l.waiting)
				}
			}
		}
	}
}

// hundredAnd answers none that call pushes.
func hundredAnd(i int) int { return 100 + i }

// call does one of eight calls.
func call(t *testing.T, b both[int], which int) {
	t.Helper()
	switch which {
	case 0, 1, 2:
		b.push(t, which)
	case 3, 4:
		b.take(t, which-2)
	case 5:
		b.take(t, 61)
	case 6:
		b.take(t, -1)
	case 7:
		b.place(t, 0)
	}
}
