package queue_test

import (
	"math"
	"testing"

	"deponent/api"
	"deponent/queue"
)

// takes answers numbers about none and about so many, and far ones of both signs.
func takes(waiting int) []int {
	l := []int{math.MinInt, math.MinInt + 1, math.MinInt32, -65, -64, -2, -1, 0, 1, 2, 3}
	l = append(l, waiting-2, waiting-1, waiting, waiting+1, waiting+2, -waiting)
	return append(l, 63, 64, 65, 128, 256, 1<<16, math.MaxInt32, math.MaxInt32+1, math.MaxInt-64, math.MaxInt-1, math.MaxInt)
}

// TestTake: P15.1, P15.2, the first ones, in order, no more than there are, none below 1; the others wait on.
func TestTake(t *testing.T) {
	wantTakes(t, textOf)
	wantTakes(t, numberOf)
	wantTakes(t, arrayOf)
	wantTakes(t, structOf)
}

func wantTakes[T comparable](t *testing.T, of func(int) T) {
	t.Helper()
	for _, waiting := range []int{0, 1, 2, 3, 5, 8, 31, 32, 33, 62, 63, 64} {
		for _, n := range takes(waiting) {
			q := filled(t, of, waiting)
			taken := 0
			for taken < n && taken < waiting {
				taken++
			}
			wantTake(t, q, n, some(of, 0, taken)...)
			wantWaiting(t, q, some(of, taken, waiting)...)
			for i := range taken {
				wantPlace(t, q, of(i), 0, false)
			}
		}
	}
}

// TestTakeWrittenOut: P15.1, some of these, written out.
func TestTakeWrittenOut(t *testing.T) {
	for _, x := range []struct {
		n           int
		taken, left []string
	}{
		{math.MinInt, nil, []string{"a", "", "c"}},
		{-1, nil, []string{"a", "", "c"}},
		{0, nil, []string{"a", "", "c"}},
		{1, []string{"a"}, []string{"", "c"}},
		{2, []string{"a", ""}, []string{"c"}},
		{3, []string{"a", "", "c"}, nil},
		{4, []string{"a", "", "c"}, nil},
		{math.MaxInt, []string{"a", "", "c"}, nil},
	} {
		q := queue.New[string]()
		wantPush(t, q, "a", 0, false, api.OK)
		wantPush(t, q, "", 1, false, api.OK)
		wantPush(t, q, "c", 2, false, api.OK)
		wantTake(t, q, x.n, x.taken...)
		wantWaiting(t, q, x.left...)
		wantTake(t, q, 64, x.left...)
		wantWaiting(t, q)
		wantTake(t, q, 1)
	}
}

// TestTakeInTurns: P15.2, in pieces of whatever size all come out in the order in which they came, each once.
func TestTakeInTurns(t *testing.T) {
	for piece := 1; piece <= 65; piece++ {
		q := filled(t, numberOf, 64)
		for begin := 0; begin < 64; begin += piece {
			end := min(begin+piece, 64)
			wantTake(t, q, piece, some(numberOf, begin, end)...)
			wantWaiting(t, q, some(numberOf, end, 64)...)
		}
		wantTake(t, q, piece)
	}
}
