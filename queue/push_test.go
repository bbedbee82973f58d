package queue_test

import (
	"testing"

	"deponent/api"
	"deponent/queue"
)

// TestPush: P15.1, P15.2, each new one waits behind the others; each that waits stays where it is, however often it comes.
func TestPush(t *testing.T) {
	wantPushes(t, textOf)
	wantPushes(t, numberOf)
	wantPushes(t, arrayOf)
	wantPushes(t, structOf)
}

func wantPushes[T comparable](t *testing.T, of func(int) T) {
	t.Helper()
	q := queue.New[T]()
	for i := range api.MaxQueue {
		wantPlace(t, q, of(i), 0, false)
		wantPush(t, q, of(i), i, false, api.OK)
		wantWaiting(t, q, some(of, 0, i+1)...)
		for waits := i; waits >= 0; waits-- {
			wantPush(t, q, of(waits), waits, true, api.OK)
		}
		wantWaiting(t, q, some(of, 0, i+1)...)
	}
}

// TestPushZeroLast: P15.1, the zero value is none that waits unless it was pushed, and waits like any other one.
func TestPushZeroLast(t *testing.T) {
	wantZeroLast(t, textOf)
	wantZeroLast(t, numberOf)
	wantZeroLast(t, arrayOf)
	wantZeroLast(t, structOf)
}

func wantZeroLast[T comparable](t *testing.T, of func(int) T) {
	t.Helper()
	var zero T
	q := queue.New[T]()
	for i := 1; i < api.MaxQueue; i++ {
		wantPush(t, q, of(i), i-1, false, api.OK)
		wantPlace(t, q, zero, 0, false)
	}
	wantPush(t, q, zero, api.MaxQueue-1, false, api.OK)
	wantPush(t, q, zero, api.MaxQueue-1, true, api.OK)
	wantWaiting(t, q, append(some(of, 1, api.MaxQueue), zero)...)
	wantTake(t, q, api.MaxQueue-1, some(of, 1, api.MaxQueue)...)
	wantPlace(t, q, zero, 0, true)
	wantTake(t, q, 1, zero)
	wantPlace(t, q, zero, 0, false)
	wantWaiting(t, q)
}

// TestPushFull: P15.1, W8, in a full queue a new one is ErrMany, with nothing beside it, and changes nothing; what waits is told its place there, too.
func TestPushFull(t *testing.T) {
	wantFull(t, textOf)
	wantFull(t, numberOf)
	wantFull(t, arrayOf)
	wantFull(t, structOf)
}

func wantFull[T comparable](t *testing.T, of func(int) T) {
	t.Helper()
	if api.MaxQueue != 64 {
		t.Fatalf("MaxQueue: %d", api.MaxQueue)
	}
	q := filled(t, of, 64)
	all := some(of, 0, 64)
	for i := range 64 {
		wantPush(t, q, of(64+i), 0, false, api.ErrMany)
		wantPlace(t, q, of(64+i), 0, false)
		wantPush(t, q, of(i), i, true, api.OK)
	}
	wantWaiting(t, q, all...)
	wantTake(t, q, 64, all...)
	wantWaiting(t, q)
	wantPush(t, q, of(64), 0, false, api.OK)
}

// TestPushBehindTake: P15.1, where n were taken out of a full queue, n find room, those that were taken as well as others, and the next one does not.
func TestPushBehindTake(t *testing.T) {
	wantRoom(t, textOf)
	wantRoom(t, numberOf)
	wantRoom(t, arrayOf)
	wantRoom(t, structOf)
}

func wantRoom[T comparable](t *testing.T, of func(int) T) {
	t.Helper()
	for n := range 65 {
		for _, from := range []int{0, 64} { // those that were taken, and others
			q := filled(t, of, 64)
			wantTake(t, q, n, some(of, 0, n)...)
			want := some(of, n, 64)
			for i := range n {
				wantPush(t, q, of(from+i), 64-n+i, false, api.OK)
				want = append(want, of(from+i))
			}
			wantWaiting(t, q, want...)
			wantPush(t, q, of(200), 0, false, api.ErrMany)
			wantWaiting(t, q, want...)
		}
	}
}

// TestPlace: P15.1, of each that waits, behind Takes of none, 1, some and all; of what was taken, and of what never came, nothing.
func TestPlace(t *testing.T) {
	wantPlaces(t, textOf)
	wantPlaces(t, numberOf)
	wantPlaces(t, arrayOf)
	wantPlaces(t, structOf)
}

func wantPlaces[T comparable](t *testing.T, of func(int) T) {
	t.Helper()
	for waiting := range 65 {
		for n := range waiting + 1 {
			q := filled(t, of, waiting)
			q.Take(n)
			for i := range 70 {
				if n <= i && i < waiting {
					wantPlace(t, q, of(i), i-n, true)
				} else {
					wantPlace(t, q, of(i), 0, false)
				}
			}
			if q.Len() != waiting-n {
				t.Fatalf("%d of %d were taken: Len is %d", n, waiting, q.Len())
			}
		}
	}
}
