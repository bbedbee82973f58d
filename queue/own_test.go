package queue_test

import (
	"fmt"
	"runtime"
	"slices"
	"testing"
	"weak"

	"deponent/api"
	"deponent/queue"
)

// whole is a list with its spare room.
func whole(l []int) []int { return l[:cap(l)] }

// spoil writes x over all of a list, its spare room too.
func spoil(l []int, x int) {
	l = whole(l)
	for i := range l {
		l[i] = x
	}
}

// answered are the lists that a queue of so many answers about a Take of n, two of All ahead of it and two behind it.
func answered(q *queue.Queue[int], n int) [][]int {
	l := [][]int{q.All(), q.All()}
	l = append(l, q.Take(n))
	return append(l, q.All(), q.All(), q.Take(0), q.Take(-1))
}

// TestListsAreApart: R2, no two lists that are answered share memory, and none is the queue's, the spare room included.
func TestListsAreApart(t *testing.T) {
	for waiting := range 65 {
		for n := range waiting + 2 {
			q := filled(t, numberOf, waiting)
			lists := answered(q, n)
			for i, l := range lists {
				spoil(l, 1000+i)
			}
			for i, l := range lists {
				if slices.ContainsFunc(whole(l), func(x int) bool { return x != 1000+i }) {
					t.Fatalf("Take %d of %d: list %d shares memory: %v", n, waiting, i, whole(l))
				}
			}
			want := some(numberOf, min(n, waiting), waiting)
			wantWaiting(t, q, want...)
			for i := range 64 - len(want) { // into the queue's own spare room
				wantPush(t, q, 2000+i, len(want), false, api.OK)
				want = append(want, 2000+i)
			}
			wantWaiting(t, q, want...)
			wantTake(t, q, 64, want...)
		}
	}
}

// TestListsStay: R2, no list that was answered changes when the queue does, nor its spare room.
func TestListsStay(t *testing.T) {
	for waiting := range 65 {
		for n := range waiting + 2 {
			q := filled(t, numberOf, waiting)
			lists := answered(q, n)
			var were [][]int
			for _, l := range lists {
				were = append(were, slices.Clone(whole(l)))
			}
			for i := range 70 {
				q.Push(3000 + i)
			}
			q.Take(5)
			q.Push(4000)
			q.Take(64)
			q.Push(4001)
			for i, l := range lists {
				if !slices.Equal(whole(l), were[i]) {
					t.Fatalf("Take %d of %d: list %d was %v, is %v", n, waiting, i, were[i], whole(l))
				}
			}
		}
	}
}

// TestAppendToLists: R2, who puts something behind a list that was answered changes nothing else.
func TestAppendToLists(t *testing.T) {
	for waiting := range 65 {
		q := filled(t, numberOf, waiting)
		first, second := q.All(), q.All()
		taken := q.Take(waiting / 2)
		first, second, taken = append(first, 5000), append(second, 5001), append(taken, 5002)
		wantWaiting(t, q, some(numberOf, waiting/2, waiting)...)
		for i, l := range [][]int{first, second, taken} {
			if l[len(l)-1] != 5000+i {
				t.Fatalf("%d wait: list %d ends with %d", waiting, i, l[len(l)-1])
			}
		}
	}
}

// TestSpareRoomIsClean: R4, what stands in the spare room of a list hangs on no earlier call.
func TestSpareRoomIsClean(t *testing.T) {
	for waiting := range 65 {
		q := filled(t, func(i int) int { return i + 1 }, waiting)
		for _, l := range answered(q, waiting/3) {
			if slices.ContainsFunc(whole(l)[len(l):], func(x int) bool { return x != 0 }) {
				t.Fatalf("%d wait: %v stands behind a list of %d", waiting, whole(l)[len(l):], len(l))
			}
		}
	}
}

// big is a thing of which it can be asked whether anyone still has it.
type big [1024]byte

// gone tells which of these no one has any more.
func gone(marks []weak.Pointer[big]) string {
	runtime.GC()
	told := ""
	for _, m := range marks {
		told += fmt.Sprint(m.Value() == nil, " ")
	}
	return told
}

// pushed pushes n new ones.
func pushed(q *queue.Queue[*big], n int) []weak.Pointer[big] {
	var marks []weak.Pointer[big]
	for range n {
		x := new(big)
		marks = append(marks, weak.Make(x))
		q.Push(x)
	}
	return marks
}

// TestTakenIsNotKept: a queue keeps what waits, and neither what was taken nor what it refused.
func TestTakenIsNotKept(t *testing.T) {
	q := queue.New[*big]()
	marks := pushed(q, 5)
	if got := gone(marks); got != "false false false false false " {
		t.Errorf("of what waits there is gone: %s", got)
	}
	q.All()
	q.Take(2)
	if got := gone(marks); got != "true true false false false " {
		t.Errorf("behind a Take of 2 there is gone: %s", got)
	}
	marks = append(marks, pushed(q, 62)...)
	marks = marks[2:]
	q.Take(64)
	if got := gone(marks[len(marks)-1:]); got != "true " {
		t.Error("what was refused is kept")
	}
	for i, m := range marks {
		if m.Value() != nil {
			t.Errorf("number %d is kept behind a Take of all", i)
		}
	}
	runtime.KeepAlive(q)
}
