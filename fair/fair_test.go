package fair_test

import (
	"math"
	"math/big"
	"math/rand"
	"slices"
	"testing"

	"deponent/api"
	"deponent/fair"
)

// Whoever has a lane or a turn sees three numbers and nothing else, and calls take and answer them as they are, not pointers to them.
var (
	_ struct{ Weight, Backlog, Deficit int }                       = fair.Lane{}
	_ struct{ Lane, Take, Next int }                               = fair.Turn{}
	_ func([]fair.Lane, int, int) (fair.Turn, []fair.Lane)         = fair.Serve
	_ func(ahead int, weight int, quantum int, lanes int) (in int) = fair.Wait
)

func lane(weight, backlog, deficit int) fair.Lane {
	return fair.Lane{Weight: weight, Backlog: backlog, Deficit: deficit}
}

func turn(at, take, next int) fair.Turn {
	return fair.Turn{Lane: at, Take: take, Next: next}
}

// ends answers numbers of both signs at the ends of int, about its half, about the bounds that the chapter names and about 0.
func ends() []int {
	l := []int{math.MinInt, math.MinInt + 1, math.MinInt + 7, math.MinInt + 8, math.MinInt + 9, math.MinInt / 2, -1 << 31, -9, -8, -7}
	l = append(l, -4, -3, -2, -1, 0, 1, 2, 3, 4, 5, 6, 7, 8, 9, 10, 15, 16, 17, 1<<20-1, 1<<20, 1<<20+1, 1<<31-1)
	return append(l, math.MaxInt/8, math.MaxInt/4, math.MaxInt/2, math.MaxInt/2+1, math.MaxInt-9, math.MaxInt-8, math.MaxInt-7, math.MaxInt-1, math.MaxInt)
}

// wantedFind looks for the lane that has its turn in the list, written out twice on end; it answers none as -1.
func wantedFind(l []fair.Lane, at int) int {
	twice := slices.Concat(l, l)
	for i := at; i < len(twice) && i < at+len(l); i++ {
		if twice[i].Weight > 0 {
			return i % len(l)
		}
	}
	return -1
}

// wantedLane goes by the words of the chapter, with numbers of any length; what is above the greatest int stops there.
func wantedLane(a fair.Lane, quantum int) (fair.Lane, int) {
	weight := int64(min(a.Weight, 4))
	switch {
	case quantum < 1:
		quantum = 1
	case quantum > 2:
		quantum = 2
	}
	grows := big.NewInt(weight * int64(quantum))
	deficit := new(big.Int).Add(big.NewInt(int64(a.Deficit)), grows)
	backlog := big.NewInt(int64(a.Backlog))
	take := new(big.Int)
	if deficit.Sign() > 0 && backlog.Sign() > 0 {
		take.Set(deficit)
		if backlog.Cmp(deficit) < 0 {
			take.Set(backlog)
		}
	}
	deficit.Sub(deficit, take)
	backlog.Sub(backlog, take)
	if backlog.Sign() == 0 {
		deficit.SetInt64(0)
	}
	if most := big.NewInt(math.MaxInt); deficit.Cmp(most) > 0 {
		deficit = most
	}
	return lane(a.Weight, int(backlog.Int64()), int(deficit.Int64())), int(take.Int64())
}

// wantedServe is what Serve has to answer.
func wantedServe(l []fair.Lane, at, quantum int) (fair.Turn, []fair.Lane) {
	if at < 0 || at > len(l)-1 {
		at = 0
	}
	after := slices.Concat(l)
	i := wantedFind(l, at)
	if i == -1 {
		return turn(-1, 0, at), after
	}
	a, take := wantedLane(l[i], quantum)
	after[i] = a
	next := i + 1
	if next == len(l) {
		next = 0
	}
	return turn(i, take, next), after
}

// wantServe asks for an answer, twice, and that what came in stays.
func wantServe(t *testing.T, l []fair.Lane, at, quantum int, want fair.Turn, after []fair.Lane) {
	t.Helper()
	was := slices.Clone(l)
	for range 2 {
		got, lanes := fair.Serve(l, at, quantum)
		if got != want || !slices.Equal(lanes, after) {
			t.Fatalf("Serve(%v, %d, %d): %v, %v, not %v, %v", was, at, quantum, got, lanes, want, after)
		}
	}
	if !slices.Equal(l, was) {
		t.Fatalf("Serve(%v, %d, %d) leaves %v", was, at, quantum, l)
	}
}

// wantAsReckoned asks for what the other reckoning tells.
func wantAsReckoned(t *testing.T, l []fair.Lane, at, quantum int) {
	t.Helper()
	want, after := wantedServe(l, at, quantum)
	wantServe(t, l, at, quantum, want, after)
}

// wantTurn serves one lane alone.
func wantTurn(t *testing.T, a fair.Lane, quantum, take int, after fair.Lane) {
	t.Helper()
	wantServe(t, []fair.Lane{a}, 0, quantum, turn(0, take, 0), []fair.Lane{after})
}

func wantWait(t *testing.T, ahead, weight, quantum, lanes, want int) {
	t.Helper()
	for range 2 {
		if got := fair.Wait(ahead, weight, quantum, lanes); got != want {
			t.Errorf("Wait(%d, %d, %d, %d): %d, not %d", ahead, weight, quantum, lanes, got, want)
		}
	}
}

// oneOf answers one of a list.
func oneOf(rnd *rand.Rand, l []int) int { return l[rnd.Intn(len(l))] }

// TestBounds: the page's limits, as the tests of this package have them.
func TestBounds(t *testing.T) {
	if api.MaxWeight != 4 || api.MaxQuantum != 2 {
		t.Errorf("MaxWeight and MaxQuantum: %d, %d", api.MaxWeight, api.MaxQuantum)
	}
}

// TestRuns: the chapter's table.
func TestRuns(t *testing.T) {
	l := []fair.Lane{lane(1, 5, 0), lane(2, 5, 0)}
	got, after := fair.Serve(l, 0, 1)
	if got != turn(0, 1, 1) || len(after) != 2 || after[0].Backlog != 4 {
		t.Fatalf("Serve(.., 0, 1): %v, %v", got, after)
	}
	wantServe(t, l, 0, 1, turn(0, 1, 1), []fair.Lane{lane(1, 4, 0), lane(2, 5, 0)})
	wantServe(t, l, 1, 2, turn(1, 4, 0), []fair.Lane{lane(1, 5, 0), lane(2, 1, 0)})
	wantServe(t, after, 1, 2, turn(1, 4, 0), []fair.Lane{lane(1, 4, 0), lane(2, 1, 0)})
	wantServe(t, nil, 0, 1, turn(-1, 0, 0), nil)
	wantServe(t, []fair.Lane{}, 0, 1, turn(-1, 0, 0), nil)
	wantWait(t, 3, 2, 1, 5, 10)
}

// TestExamples: the chapter's examples.
func TestExamples(t *testing.T) {
	wantServe(t, []fair.Lane{lane(2, 0, 0), lane(1, 9, 0)}, 0, 1, turn(0, 0, 1), []fair.Lane{lane(2, 0, 0), lane(1, 9, 0)})
	wantServe(t, []fair.Lane{lane(1, 5, 0), lane(2, 5, 0)}, -1, 1, turn(0, 1, 1), []fair.Lane{lane(1, 4, 0), lane(2, 5, 0)})
	none := []fair.Lane{lane(0, 5, 1), lane(0, 5, 2), lane(0, 0, 3)}
	for at := range none {
		wantServe(t, none, at, 1, turn(-1, 0, at), none)
	}
}
