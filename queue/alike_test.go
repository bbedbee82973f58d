package queue_test

import (
	"errors"
	"math"
	"testing"

	"deponent/api"
	"deponent/queue"
)

// box has something in it that is asked as it runs whether it can be compared.
type box struct {
	n  int
	in any
}

// noEqual answers things of types that Go can't compare, alone and in others.
func noEqual() []any {
	f := func() {}
	return []any{
		[]int(nil), []int{1}, map[int]int(nil), map[int]int{1: 2}, f,
		[1]func(){f}, struct{ l []int }{}, [0][]int{},
		box{n: 1, in: []int{1}}, [2]any{1, []int{1}}, box{in: box{in: f}},
	}
}

// TestNotComparable: R1, what holds a value that Go can't compare is like nothing: it waits behind the others each time it comes, and no call panics.
func TestNotComparable(t *testing.T) {
	for _, x := range noEqual() {
		q := queue.New[any]()
		wantPlace(t, q, x, 0, false)
		wantPush(t, q, x, 0, false, api.OK)
		wantPush(t, q, x, 1, false, api.OK)
		wantPlace(t, q, x, 0, false)
		wantPush(t, q, "a", 2, false, api.OK)
		wantPush(t, q, x, 3, false, api.OK)
		wantPush(t, q, "a", 2, true, api.OK)
		wantPlace(t, q, "a", 2, true)
		if q.Len() != 4 || len(q.All()) != 4 || q.All()[2] != "a" {
			t.Fatalf("%T: %v", x, q.All())
		}
		if l := q.Take(2); len(l) != 2 || q.Len() != 2 {
			t.Fatalf("%T: %v", x, l)
		}
		wantPlace(t, q, "a", 0, true)
	}
}

// TestNotComparableFull: P15.1, R1, such ones fill a queue, too, and the 65th of them is refused.
func TestNotComparableFull(t *testing.T) {
	q := queue.New[any]()
	for i := range 64 {
		wantPush(t, q, any([]int{i}), i, false, api.OK)
	}
	for _, x := range noEqual() {
		wantPush(t, q, x, 0, false, api.ErrMany)
	}
	wantPush(t, q, nil, 0, false, api.ErrMany)
	for i, x := range q.Take(64) {
		if x.([]int)[0] != i {
			t.Errorf("%v came as number %d", x, i)
		}
	}
	wantWaiting(t, q)
}

// TestNotComparableInside: R1, the same of structs and arrays that have such a value in them.
func TestNotComparableInside(t *testing.T) {
	q := queue.New[box]()
	wantPush(t, q, box{n: 1, in: []int{1}}, 0, false, api.OK)
	wantPush(t, q, box{n: 1, in: []int{1}}, 1, false, api.OK)
	wantPush(t, q, box{n: 1, in: 1}, 2, false, api.OK)
	wantPush(t, q, box{n: 1, in: 1}, 2, true, api.OK)
	wantPush(t, q, box{n: 2, in: []int{1}}, 3, false, api.OK)
	wantPlace(t, q, box{n: 1, in: []int{1}}, 0, false)
	wantPlace(t, q, box{}, 0, false)

	a := queue.New[[2]any]()
	wantPush(t, a, [2]any{1, []int{}}, 0, false, api.OK)
	wantPush(t, a, [2]any{1, []int{}}, 1, false, api.OK)
	wantPush(t, a, [2]any{}, 2, false, api.OK)
	wantPush(t, a, [2]any{}, 2, true, api.OK)
}

// TestInterfaces: P15.1, what is like what goes by Go's own ==: by the type as well as by the value; nil is one of those that wait.
func TestInterfaces(t *testing.T) {
	unlike := []any{nil, 0, int8(0), uint(0), "", "0", 0.0, false, [1]int{}, [1]int8{}, box{}, entry{}, (*int)(nil), (*int8)(nil), struct{}{}, api.OK, error(api.ErrArg)}
	q := queue.New[any]()
	for i, x := range unlike {
		wantPush(t, q, x, i, false, api.OK)
	}
	for i, x := range unlike {
		wantPush(t, q, x, i, true, api.OK)
	}
	wantWaiting(t, q, unlike...)
	wantTake(t, q, 1, nil)
	wantPlace(t, q, nil, 0, false)

	e := queue.New[error]()
	wantPush(t, e, nil, 0, false, api.OK)
	wantPush(t, e, errors.New("x"), 1, false, api.OK)
	wantPush(t, e, errors.New("x"), 2, false, api.OK) // another one, of the same text
	wantPush[error](t, e, api.ErrArg, 3, false, api.OK)
	wantPush[error](t, e, api.ErrArg, 3, true, api.OK)
	wantPush(t, e, nil, 0, true, api.OK)
}

// TestPointers: P15.1, pointers are alike that point to one place, whatever stands there.
func TestPointers(t *testing.T) {
	x, y := new(int), new(int)
	q := queue.New[*int]()
	wantPush(t, q, x, 0, false, api.OK)
	wantPush(t, q, y, 1, false, api.OK)
	wantPush(t, q, nil, 2, false, api.OK)
	*x = 7
	wantPush(t, q, x, 0, true, api.OK)
	wantPush(t, q, y, 1, true, api.OK)
	wantPush(t, q, nil, 2, true, api.OK)
	wantTake(t, q, 3, x, y, nil)
	wantPlace(t, q, nil, 0, false)
}

// TestFloats: P15.1, 0 and -0 are alike, and what is no number is unlike itself.
func TestFloats(t *testing.T) {
	q := queue.New[float64]()
	wantPush(t, q, 0, 0, false, api.OK)
	wantPush(t, q, math.Copysign(0, -1), 0, true, api.OK)
	wantPush(t, q, math.NaN(), 1, false, api.OK)
	wantPush(t, q, math.NaN(), 2, false, api.OK)
	wantPlace(t, q, math.NaN(), 0, false)
	wantPush(t, q, math.Inf(1), 3, false, api.OK)
	wantPush(t, q, math.Inf(1), 3, true, api.OK)
	if l := q.Take(3); len(l) != 3 || l[0] != 0 || math.Signbit(l[0]) || !math.IsNaN(l[1]) || !math.IsNaN(l[2]) {
		t.Errorf("Take(3): %v", l)
	}
	wantWaiting(t, q, math.Inf(1))
}

// TestFewValues: P15.2, of a type of one value one waits, and of truths two.
func TestFewValues(t *testing.T) {
	one := queue.New[struct{}]()
	none := queue.New[[0]any]()
	truths := queue.New[bool]()
	for i := range 70 {
		wantPush(t, one, struct{}{}, 0, i > 0, api.OK)
		wantPush(t, none, [0]any{}, 0, i > 0, api.OK)
		wantPush(t, truths, i%2 == 1, i%2, i > 1, api.OK)
	}
	wantWaiting(t, one, struct{}{})
	wantTake(t, one, 9, struct{}{})
	wantPlace(t, one, struct{}{}, 0, false)
	wantWaiting(t, none, [0]any{})
	wantWaiting(t, truths, false, true)
	wantTake(t, truths, 1, false)
	wantPush(t, truths, false, 1, false, api.OK)
}

// nested answers n boxes in one another, and the innermost thing.
func nested(n int, in any) any {
	for range n {
		in = box{in: in}
	}
	return in
}

// TestNested: the limits of the document: 2^16 parts in one another, alike but for the innermost one.
func TestNested(t *testing.T) {
	q := queue.New[any]()
	const deep = 1 << 16
	for i := range 3 {
		wantPush(t, q, nested(deep, i), i, false, api.OK)
	}
	for i := range 3 {
		if place, waits := q.Place(nested(deep, i)); place != i || !waits {
			t.Errorf("number %d: %d, %v", i, place, waits)
		}
	}
	if place, waits := q.Place(nested(deep, []int{1})); place != 0 || waits {
		t.Errorf("of none: %d, %v", place, waits)
	}
	if place, waited, why := q.Push(nested(deep, []int{1})); place != 3 || waited || why != api.OK {
		t.Errorf("what can't be compared, far inside: %d, %v, %d", place, waited, why)
	}
	if place, waited, why := q.Push(nested(deep, []int{1})); place != 4 || waited || why != api.OK {
		t.Errorf("again: %d, %v, %d", place, waited, why)
	}
}

// TestTextsInFull: P15.1, texts are held against each other in full: by all their bytes, whatever these are.
func TestTextsInFull(t *testing.T) {
	texts := []string{"", "\x00", "\x00\x00", "a", "a\x00", "A", "\xff", "\xfe", "\xc3\xa4", "\xc3", "\xc3\xa4 ", "a\u0308", textOf(1000), textOf(1000) + "b", "b" + textOf(1000)}
	q := queue.New[string]()
	for i, x := range texts {
		wantPush(t, q, x, i, false, api.OK)
	}
	for i, x := range texts {
		b := []byte(x)
		wantPush(t, q, string(b), i, true, api.OK)
	}
	wantWaiting(t, q, texts...)
}

// TestTextIsNotTheBytes: R2, bytes that are changed behind a Push change nothing that waits.
func TestTextIsNotTheBytes(t *testing.T) {
	b := []byte("leaf")
	q := queue.New[string]()
	wantPush(t, q, string(b), 0, false, api.OK)
	b[0] = 'x'
	wantPush(t, q, string(b), 1, false, api.OK)
	wantWaiting(t, q, "leaf", "xeaf")
}
