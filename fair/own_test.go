package fair_test

import (
	"math"
	"math/rand"
	"slices"
	"testing"

	"deponent/fair"
)

// behind stands in the room behind lists.
var behind = []fair.Lane{lane(4, 9, 9), lane(1, 5, 0), lane(-1, -1, -1)}

// roomy answers l with room behind it, and the whole of its memory.
func roomy(l []fair.Lane) (list, whole []fair.Lane) {
	whole = slices.Concat(l, behind)
	return whole[:len(l)], whole
}

// spoil writes x over all of a list, its spare room too.
func spoil(l []fair.Lane, x fair.Lane) {
	l = l[:cap(l)]
	for i := range l {
		l[i] = x
	}
}

// stays tells whether all of a list is x, its spare room too.
func stays(l []fair.Lane, x fair.Lane) bool {
	return !slices.ContainsFunc(l[:cap(l)], func(a fair.Lane) bool { return a != x })
}

// lists are lanes of all lengths up to 40: some take part, all do, none does.
func lists() [][]fair.Lane {
	rnd := rand.New(rand.NewSource(163))
	l := [][]fair.Lane{nil, {}}
	for length := 1; length <= 40; length++ {
		for _, least := range []int{-3, 1} {
			var some []fair.Lane
			for range length {
				some = append(some, lane(least+rnd.Intn(6), rnd.Intn(20), rnd.Intn(9)-4))
			}
			l = append(l, some)
		}
		l = append(l, slices.Repeat([]fair.Lane{lane(0, length, 1)}, length))
	}
	return l
}

// TestLanesAreLeft: R2, R5, no call changes what came in, nor the room behind it, nor does an answer hang on that room.
func TestLanesAreLeft(t *testing.T) {
	for _, l := range lists() {
		for _, at := range placesOf(len(l)) {
			list, whole := roomy(l)
			want, lanes := fair.Serve(slices.Clip(l), at, 2)
			got, after := fair.Serve(list, at, 2)
			if got != want || !slices.Equal(after, lanes) {
				t.Fatalf("Serve(%v, %d, 2): with room behind it %v, %v, without %v, %v", l, at, got, after, want, lanes)
			}
			if !slices.Equal(whole, slices.Concat(l, behind)) {
				t.Fatalf("Serve(%v, %d, 2) leaves %v", l, at, whole)
			}
		}
	}
}

// TestAnswersAreApart: R2, the lanes that are answered share no memory with those that came in, nor with those of another call, the spare room included; also where no lane takes part.
func TestAnswersAreApart(t *testing.T) {
	for _, l := range lists() {
		for _, at := range []int{-1, 0, len(l) / 2, len(l)} {
			list, whole := roomy(l)
			_, first := fair.Serve(list, at, 1)
			_, second := fair.Serve(list, at, 1)
			_, third := fair.Serve(first, at, 1)
			all := [][]fair.Lane{whole, first, second, third}
			for i, x := range all {
				spoil(x, lane(i, i, i))
			}
			for i, x := range all {
				if !stays(x, lane(i, i, i)) {
					t.Fatalf("Serve(%v, %d, 1): list %d shares memory: %v", l, at, i, x[:cap(x)])
				}
			}
		}
	}
}

// TestAnswersStay: R2, R4, lanes that were answered, their spare room included, stay as they are, whatever becomes of those that came in, and whatever is called later; nothing is kept of what came in.
func TestAnswersStay(t *testing.T) {
	for _, l := range lists() {
		list, whole := roomy(l)
		want, after := fair.Serve(list, 0, 1)
		was := slices.Clone(after[:cap(after)])
		lanes := slices.Clone(after)
		spoil(whole, lane(3, 33, 3))
		fair.Serve(list, 1, 2)
		fair.Serve(after, 0, 1)
		fair.Serve(nil, 0, 1)
		fair.Wait(3, 2, 1, 5)
		if !slices.Equal(after[:cap(after)], was) {
			t.Fatalf("Serve(%v, 0, 1): %v have become %v", l, was, after[:cap(after)])
		}
		spoil(after, lane(1, 1, 1))
		wantServe(t, l, 0, 1, want, lanes)
	}
}

// TestAppendToAnswers: R2, who puts something behind lanes that were answered changes nothing else.
func TestAppendToAnswers(t *testing.T) {
	for _, l := range lists() {
		list, whole := roomy(l)
		_, first := fair.Serve(list, 0, 1)
		_, second := fair.Serve(list, 0, 1)
		lanes := slices.Clone(first)
		longer, other := append(first, lane(7, 7, 7)), append(second, lane(8, 8, 8))
		if longer[len(l)] != lane(7, 7, 7) || other[len(l)] != lane(8, 8, 8) || !slices.Equal(whole, slices.Concat(l, behind)) {
			t.Fatalf("of %v: %v, %v, %v", l, longer, other, whole)
		}
		if !slices.Equal(longer[:len(l)], lanes) || !slices.Equal(other[:len(l)], lanes) {
			t.Fatalf("of %v: %v and %v", l, longer, other)
		}
	}
}

// TestSpareRoomIsClean: R4, nothing stands in the spare room of the lanes that are answered.
func TestSpareRoomIsClean(t *testing.T) {
	for _, l := range lists() {
		list, _ := roomy(l)
		for _, in := range [][]fair.Lane{l, list} {
			_, after := fair.Serve(in, 0, 1)
			if room := after[len(after):cap(after)]; !stays(room, fair.Lane{}) {
				t.Fatalf("Serve(%v, 0, 1): %v stands behind", l, room)
			}
		}
	}
}

// TestNilAndEmpty: R1, R4, no lanes at all, nil, empty or with room behind them, mean the same.
func TestNilAndEmpty(t *testing.T) {
	list, whole := roomy(nil)
	for _, l := range [][]fair.Lane{nil, {}, list, behind[1:1]} {
		for _, at := range []int{math.MinInt, -1, 0, 1, 3, math.MaxInt} {
			for _, quantum := range quanta {
				wantServe(t, l, at, quantum, turn(-1, 0, 0), nil)
			}
		}
	}
	if !slices.Equal(whole, behind) {
		t.Errorf("the room behind no lanes is %v", whole)
	}
}

// TestSameAgain: R4, the same calls in another order, with others between them, answer the same.
func TestSameAgain(t *testing.T) {
	all := lists()
	type answer struct {
		turn  fair.Turn
		lanes []fair.Lane
		wait  int
	}
	ask := func(i int) answer {
		x, after := fair.Serve(all[i], i%7-1, i%4)
		return answer{x, after, fair.Wait(i, i%5, i%4, len(all[i]))}
	}
	var first []answer
	for i := range all {
		first = append(first, ask(i))
	}
	rnd := rand.New(rand.NewSource(164))
	for range 20 {
		for _, i := range rnd.Perm(len(all)) {
			if x := ask(i); x.turn != first[i].turn || !slices.Equal(x.lanes, first[i].lanes) || x.wait != first[i].wait {
				t.Fatalf("number %d answered %v, answers %v", i, first[i], x)
			}
		}
	}
}
