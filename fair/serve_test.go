package fair_test

import (
	"math"
	"math/rand"
	"testing"

	"deponent/fair"
)

// quanta are numbers below 1, within, and above MaxQuantum.
var quanta = []int{math.MinInt, math.MinInt + 1, -1 << 32, -2, -1, 0, 1, 2, 3, 4, 99, 1 << 32, math.MaxInt / 2, math.MaxInt - 1, math.MaxInt}

// placesOf answers the places of a list, those below and beyond it, and the ends of int.
func placesOf(length int) []int {
	l := []int{math.MinInt, math.MinInt + 1, -length - 1, -length, -2, -1}
	for at := range length + 3 {
		l = append(l, at)
	}
	return append(l, 2*length, 2*length+1, 1<<32, math.MaxInt-1, math.MaxInt)
}

// wantAtAllPlaces serves a list from each place on.
func wantAtAllPlaces(t *testing.T, l []fair.Lane) {
	t.Helper()
	for _, at := range placesOf(len(l)) {
		wantAsReckoned(t, l, at, 1)
	}
}

// TestServeWhose: P16.1, up to nine lanes of which any take part, from each place on: whose turn it is, and what is next.
func TestServeWhose(t *testing.T) {
	for length := range 10 {
		for taking := range 1 << length {
			l := make([]fair.Lane, length)
			for i := range l {
				l[i] = lane(taking>>i&1, 20+i, i)
			}
			wantAtAllPlaces(t, l)
		}
	}
}

// TestServeWhoseWrittenOut: P16.1, some of these, written out.
func TestServeWhoseWrittenOut(t *testing.T) {
	for _, x := range []struct {
		weights          []int
		at, served, next int
	}{
		{[]int{1}, 0, 0, 0}, {[]int{1}, 1, 0, 0}, {[]int{1}, -1, 0, 0}, {[]int{1}, math.MinInt, 0, 0}, {[]int{1}, math.MaxInt, 0, 0},
		{[]int{1, 1, 1}, 0, 0, 1}, {[]int{1, 1, 1}, 1, 1, 2}, {[]int{1, 1, 1}, 2, 2, 0}, {[]int{1, 1, 1}, 3, 0, 1}, {[]int{1, 1, 1}, 4, 0, 1},
		{[]int{1, 1, 1}, -1, 0, 1}, {[]int{1, 1, 1}, -3, 0, 1}, {[]int{1, 1, 1}, math.MinInt, 0, 1}, {[]int{1, 1, 1}, math.MaxInt, 0, 1},
		{[]int{0, 1, 0}, 0, 1, 2}, {[]int{0, 1, 0}, 1, 1, 2}, {[]int{0, 1, 0}, 2, 1, 2}, {[]int{0, 1, 0}, 3, 1, 2}, {[]int{0, 1, 0}, -1, 1, 2},
		{[]int{0, 0, 1}, 0, 2, 0}, {[]int{0, 0, 1}, 1, 2, 0}, {[]int{0, 0, 1}, 2, 2, 0}, {[]int{0, 0, 1}, 3, 2, 0}, {[]int{0, 0, 1}, -2, 2, 0},
		{[]int{1, 0, 0}, 0, 0, 1}, {[]int{1, 0, 0}, 1, 0, 1}, {[]int{1, 0, 0}, 2, 0, 1}, {[]int{1, 0, 0}, 3, 0, 1},
		{[]int{1, 0, 2}, 1, 2, 0}, {[]int{1, 2, 0}, 2, 0, 1}, {[]int{1, 0, 4}, 3, 0, 1}, {[]int{0, 3, 4}, 3, 1, 2}, {[]int{0, 3, 4}, -9, 1, 2},
		{[]int{-1, 1}, 0, 1, 0}, {[]int{math.MinInt, 1}, 0, 1, 0}, {[]int{1, -1}, 1, 0, 1}, {[]int{1, math.MinInt}, 1, 0, 1}, {[]int{math.MaxInt, -7}, 1, 0, 1},
	} {
		var l []fair.Lane
		for _, w := range x.weights {
			l = append(l, lane(w, 50, 0))
		}
		if got, _ := fair.Serve(l, x.at, 1); got.Lane != x.served || got.Next != x.next {
			t.Errorf("Weights %v from %d on: %v, not %d, %d", x.weights, x.at, got, x.served, x.next)
		}
		wantAsReckoned(t, l, x.at, 1)
	}
}

// TestServeNone: P16.1, where no lane takes part, {-1, 0, at}, or 0 where at is outside; the lanes as they came, whatever they have.
func TestServeNone(t *testing.T) {
	rnd := rand.New(rand.NewSource(161))
	weights := []int{math.MinInt, math.MinInt + 1, -1 << 32, -4, -3, -2, -1, 0}
	for length := range 40 {
		l := make([]fair.Lane, length)
		for i := range l {
			l[i] = lane(oneOf(rnd, weights), oneOf(rnd, ends()), oneOf(rnd, ends()))
		}
		for _, at := range placesOf(length) {
			next := 0
			if at >= 0 && at < length {
				next = at
			}
			for _, quantum := range quanta {
				wantServe(t, l, at, quantum, turn(-1, 0, next), l)
			}
		}
	}
}

// TestServeOneLane: P16.1, lanes of every three numbers of ends, by each quantum: Deficit, Take and Backlog, and no sum turns round.
func TestServeOneLane(t *testing.T) {
	for _, weight := range []int{1, 2, 3, 4, 5, 6, 8, 1 << 32, math.MaxInt / 2, math.MaxInt - 1, math.MaxInt} {
		for _, backlog := range ends() {
			for _, deficit := range ends() {
				for _, quantum := range quanta {
					wantAsReckoned(t, []fair.Lane{lane(weight, backlog, deficit)}, 0, quantum)
				}
			}
		}
	}
}

// TestServeSmallLanes: P16.1, all small numbers of a lane, those that its Backlog just fills or leaves empty among them.
func TestServeSmallLanes(t *testing.T) {
	for weight := 1; weight <= 6; weight++ {
		for quantum := -1; quantum <= 4; quantum++ {
			for backlog := -12; backlog <= 24; backlog++ {
				for deficit := -12; deficit <= 24; deficit++ {
					wantAsReckoned(t, []fair.Lane{lane(weight, backlog, deficit)}, 0, quantum)
				}
			}
		}
	}
}

// TestServeWrittenOut: P16.1, what one lane's turn leaves, written out.
func TestServeWrittenOut(t *testing.T) {
	const most, least = math.MaxInt, math.MinInt
	for _, x := range []struct {
		weight, backlog, deficit, quantum, take, left, after int
	}{
		// By Weight and quantum, each brought between its bounds.
		{1, 50, 0, 1, 1, 49, 0}, {2, 50, 0, 1, 2, 48, 0}, {3, 50, 0, 1, 3, 47, 0}, {4, 50, 0, 1, 4, 46, 0}, {5, 50, 0, 1, 4, 46, 0}, {most, 50, 0, 1, 4, 46, 0},
		{1, 50, 0, 2, 2, 48, 0}, {2, 50, 0, 2, 4, 46, 0}, {3, 50, 0, 2, 6, 44, 0}, {4, 50, 0, 2, 8, 42, 0}, {5, 50, 0, 2, 8, 42, 0}, {most, 50, 0, most, 8, 42, 0},
		{3, 50, 0, 0, 3, 47, 0}, {3, 50, 0, -1, 3, 47, 0}, {3, 50, 0, least, 3, 47, 0}, {3, 50, 0, 3, 6, 44, 0}, {3, 50, 0, most, 6, 44, 0},
		// Backlogs about what may be taken.
		{3, 2, 0, 1, 2, 0, 0}, {3, 3, 0, 1, 3, 0, 0}, {3, 4, 0, 1, 3, 1, 0}, {3, 7, 5, 1, 7, 0, 0}, {3, 8, 5, 1, 8, 0, 0}, {3, 9, 5, 1, 8, 1, 0},
		// No Backlog: nothing is taken, and nothing saved up.
		{3, 0, 0, 1, 0, 0, 0}, {3, 0, 7, 2, 0, 0, 0}, {3, 0, -7, 2, 0, 0, 0}, {3, 0, most, 2, 0, 0, 0}, {3, 0, least, 2, 0, 0, 0},
		// Backlogs below 0: nothing is taken, and they are not 0.
		{3, -1, 0, 1, 0, -1, 3}, {3, -1, 5, 2, 0, -1, 11}, {3, -1, -5, 2, 0, -1, 1}, {3, least, 0, 1, 0, least, 3}, {3, least, least, 1, 0, least, least + 3},
		// Deficits below 0.
		{3, 9, -1, 1, 2, 7, 0}, {3, 9, -2, 1, 1, 8, 0}, {3, 9, -3, 1, 0, 9, 0}, {3, 9, -4, 1, 0, 9, -1}, {3, 9, -5, 1, 0, 9, -2}, {3, 2, -1, 1, 2, 0, 0}, {3, 1, -1, 1, 1, 0, 0},
		{3, 9, least, 2, 0, 9, least + 6}, {4, most, least, 2, 0, most, least + 8}, {1, most, -1, 1, 0, most, 0},
		// The ends of int.
		{3, 9, most, 2, 9, 0, 0}, {3, most, most, 2, most, 0, 0}, {3, most, 0, 1, 3, most - 3, 0}, {3, most, most - 3, 1, most, 0, 0}, {3, most, most - 4, 1, most - 1, 1, 0},
		{4, most, most - 7, 2, most, 0, 0}, {4, most, most - 9, 2, most - 1, 1, 0}, {3, -1, most, 2, 0, -1, most}, {3, -1, most - 6, 2, 0, -1, most},
		{3, -1, most - 7, 2, 0, -1, most - 1}, {3, -1, most - 5, 2, 0, -1, most}, {1, least, most, 1, 0, least, most}, {1, least, most - 1, 1, 0, least, most},
	} {
		wantTurn(t, lane(x.weight, x.backlog, x.deficit), x.quantum, x.take, lane(x.weight, x.left, x.after))
	}
}

// TestServeWithoutBacklog: P16.1, example 1, a lane that takes part without a Backlog has its turn ahead of others that have one, and its Deficit is 0 behind it.
func TestServeWithoutBacklog(t *testing.T) {
	for _, deficit := range ends() {
		for weight := 1; weight <= 5; weight++ {
			l := []fair.Lane{lane(4, 9, 1), lane(weight, 0, deficit), lane(4, 9, 1)}
			for _, quantum := range quanta {
				wantServe(t, l, 1, quantum, turn(1, 0, 2), []fair.Lane{l[0], lane(weight, 0, 0), l[2]})
			}
		}
	}
}

// TestServeOnAndOn: P16.1, a Deficit that grows turn by turn stops at the greatest int, and one far below 0 is made up for.
func TestServeOnAndOn(t *testing.T) {
	l := []fair.Lane{lane(4, -1, math.MaxInt-20), lane(3, 9, -20)}
	at := 0
	for _, want := range []struct {
		take          int
		short, second int
	}{
		{0, 12, -20}, {0, 12, -14}, {0, 4, -14}, {0, 4, -8}, {0, 0, -8}, {0, 0, -2}, {0, 0, -2}, {4, 0, 0}, {0, 0, 0}, {5, 0, 0}, {0, 0, 0}, {0, 0, 0},
	} {
		got, after := fair.Serve(l, at, 2)
		if got != turn(at, want.take, 1-at) || after[0].Deficit != math.MaxInt-want.short || after[1].Deficit != want.second {
			t.Fatalf("Serve(%v, %d, 2): %v, %v", l, at, got, after)
		}
		l, at = after, got.Next
	}
}

// TestServeDrawn: P16.1, drawn lanes with numbers from everywhere, from drawn places on.
func TestServeDrawn(t *testing.T) {
	rnd := rand.New(rand.NewSource(162))
	numbers := ends()
	some := func() int {
		if rnd.Intn(2) == 0 {
			return rnd.Intn(30) - 10
		}
		return oneOf(rnd, numbers)
	}
	for range 30000 {
		l := make([]fair.Lane, rnd.Intn(20))
		for i := range l {
			l[i] = lane(rnd.Intn(9)-4, some(), some())
			if rnd.Intn(6) == 0 {
				l[i].Weight = oneOf(rnd, numbers)
			}
		}
		wantAsReckoned(t, l, oneOf(rnd, placesOf(len(l))), oneOf(rnd, quanta))
	}
}

// TestServeManyLanes: P16.1, where one of very many lanes takes part it has its turn, wherever one looks from.
func TestServeManyLanes(t *testing.T) {
	const many = 1 << 17
	for _, i := range []int{0, 1, many / 2, many - 2, many - 1} {
		l := make([]fair.Lane, many)
		l[i] = lane(2, 9, 0)
		for _, at := range []int{math.MinInt, -1, 0, 1, i - 1, i, i + 1, many - 1, many, many + i, math.MaxInt} {
			got, after := fair.Serve(l, at, 1)
			if got != turn(i, 2, (i+1)%many) || len(after) != many || after[i] != lane(2, 7, 0) {
				t.Fatalf("lane %d of %d, from %d on: %v", i, many, at, got)
			}
		}
	}
}
