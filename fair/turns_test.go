package fair_test

import (
	"math/rand"
	"slices"
	"testing"

	"deponent/fair"
)

// road is a run of turns over lanes in which leaves come and wait.
type road struct {
	lanes   []fair.Lane
	at      int
	quantum int
	taking  int     // how many lanes take part
	turns   int     // that there were
	due     [][]int // of each lane, in order: the turn by which each leaf that waits has to be taken
	onTime  int     // how many were taken at that very turn
}

// newRoad begins without leaves.
func newRoad(weights, deficits []int, at, quantum int) *road {
	r := &road{at: at, quantum: quantum, due: make([][]int, len(weights))}
	for i, w := range weights {
		r.lanes = append(r.lanes, lane(w, 0, deficits[i]))
		if w > 0 {
			r.taking++
		}
	}
	return r
}

// come lets n leaves more wait in a lane.
func (r *road) come(i, n int) {
	for range n {
		ahead := len(r.due[i])
		r.due[i] = append(r.due[i], r.turns+fair.Wait(ahead, r.lanes[i].Weight, r.quantum, r.taking))
		r.lanes[i].Backlog++
	}
}

// serve gives one turn; it asks of each leaf that is taken that it was due by then at the latest.
func (r *road) serve(t *testing.T) fair.Turn {
	t.Helper()
	x, after := fair.Serve(r.lanes, r.at, r.quantum)
	r.turns++
	if r.lanes[x.Lane].Weight < 1 || x.Take < 0 || x.Take > len(r.due[x.Lane]) {
		t.Fatalf("turn %d: of %v lane %d has its turn: %v", r.turns, r.lanes, x.Lane, x)
	}
	for _, due := range r.due[x.Lane][:x.Take] {
		if due < r.turns {
			t.Fatalf("%v by %d: taken at turn %d, not %d", r.lanes, r.quantum, r.turns, due)
		}
		if due == r.turns {
			r.onTime++
		}
	}
	r.due[x.Lane] = r.due[x.Lane][x.Take:]
	r.lanes, r.at = after, x.Next
	for i, due := range r.due {
		if len(due) != r.lanes[i].Backlog {
			t.Fatalf("turn %d: in lane %d %d wait, not %d", r.turns, i, r.lanes[i].Backlog, len(due))
		}
	}
	return x
}

// wantNoneLate asks that no leaf waits that was due, but in lanes that take no part.
func (r *road) wantNoneLate(t *testing.T) {
	t.Helper()
	for i, l := range r.due {
		for _, due := range l {
			if r.lanes[i].Weight > 0 && due <= r.turns {
				t.Fatalf("%v by %d: in lane %d one waits still behind turn %d that was due at %d", r.lanes, r.quantum, i, r.turns, due)
			}
		}
	}
}

// drawnWeights answers up to 16 weights, some of them below 1, some above MaxWeight, and at least one that takes part.
func drawnWeights(rnd *rand.Rand) []int {
	weights := make([]int, 1+rnd.Intn(16))
	for i := range weights {
		weights[i] = rnd.Intn(8) - 1
	}
	weights[rnd.Intn(len(weights))] = 1 + rnd.Intn(4)
	return weights
}

// drawnRoad answers a run over drawn lanes; their Deficits begin at 0 to most.
func drawnRoad(rnd *rand.Rand, most int) *road {
	weights := drawnWeights(rnd)
	deficits := make([]int, len(weights))
	for i := range deficits {
		deficits[i] = rnd.Intn(most + 1)
	}
	return newRoad(weights, deficits, rnd.Intn(len(weights)+4)-2, rnd.Intn(5)-1)
}

// TestTakenWithinWait: P16.3, W7, leaves that come one by one or many at once, ahead of others and behind them, over thousands of turns: each is taken within Wait turns.
func TestTakenWithinWait(t *testing.T) {
	rnd := rand.New(rand.NewSource(165))
	for run := range 150 {
		r := drawnRoad(rnd, run%2*20)
		often := 1 + rnd.Intn(6)
		for range 3000 {
			if rnd.Intn(often) == 0 {
				i := rnd.Intn(len(r.lanes))
				r.come(i, min(1+rnd.Intn(20), 64-len(r.due[i])))
			}
			r.serve(t)
		}
		r.wantNoneLate(t)
		if r.onTime < 5 {
			t.Errorf("run %d: only %d are taken at the last turn: the test tells too little", run, r.onTime)
		}
	}
}

// TestTakenWithinWaitOfFullLanes: P16.3, where all lanes are full at first, and no leaf comes behind: each is taken within Wait turns of the beginning.
func TestTakenWithinWaitOfFullLanes(t *testing.T) {
	rnd := rand.New(rand.NewSource(166))
	for range 500 {
		r := drawnRoad(rnd, 0)
		most := 0
		for i, a := range r.lanes {
			r.come(i, 64)
			if a.Weight > 0 {
				most = max(most, fair.Wait(63, a.Weight, r.quantum, r.taking))
			}
		}
		for range most {
			r.serve(t)
		}
		r.wantNoneLate(t)
		for i, due := range r.due {
			if left := len(due); r.lanes[i].Weight > 0 && left != 0 || r.lanes[i].Weight < 1 && left != 64 {
				t.Fatalf("%v: in lane %d %d are left", r.lanes, i, left)
			}
		}
	}
}

// TestWaitIsReached: P16.2, P16.3, the leaf in the lane that is the last one to have its turn is taken at the last of these turns, and not sooner.
func TestWaitIsReached(t *testing.T) {
	for lanes := 1; lanes <= 6; lanes++ {
		for weight := 1; weight <= 5; weight++ {
			for quantum := range 4 {
				for ahead := range 30 {
					weights := append(slices.Repeat([]int{2}, lanes-1), weight)
					r := newRoad(weights, make([]int, lanes), 0, quantum)
					r.come(lanes-1, ahead+1)
					last := fair.Wait(ahead, weight, quantum, lanes)
					for range last - 1 {
						r.serve(t)
					}
					if len(r.due[lanes-1]) == 0 {
						t.Fatalf("Weight %d by %d, %d lanes: with %d ahead taken sooner than at turn %d", weight, quantum, lanes, ahead, last)
					}
					r.serve(t)
					if len(r.due[lanes-1]) != 0 {
						t.Fatalf("Weight %d by %d, %d lanes: with %d ahead not taken at turn %d", weight, quantum, lanes, ahead, last)
					}
				}
			}
		}
	}
}

// scale holds what two lanes got against each other.
type scale struct {
	i, j        int // the lanes
	now         int // what i got times j's Weight, less what j got times i's
	least, most int // what now was at its least and at its most
	bound       int // by how much now may change: both Weights times one quantum
}

// got tells of a turn.
func (s *scale) got(x fair.Turn, weights []int) {
	switch x.Lane {
	case s.i:
		s.now += x.Take * weights[s.j]
	case s.j:
		s.now -= x.Take * weights[s.i]
	}
	s.least, s.most = min(s.least, s.now), max(s.most, s.now)
}

// scales answers one for each two of some lanes.
func scales(lanes, weights []int, quantum int) []*scale {
	var l []*scale
	for n, i := range lanes {
		for _, j := range lanes[:n] {
			l = append(l, &scale{i: i, j: j, bound: weights[i] * weights[j] * quantum})
		}
	}
	return l
}

// counted answers weights as they count.
func counted(weights []int) []int {
	var l []int
	for _, w := range weights {
		l = append(l, brought(w, 0, 4))
	}
	return l
}

// TestTwoLanes: P16.3, W7, of each two lanes that always have a Backlog what is taken, by their weights, differs by at most one quantum, from the beginning and from any later turn on, over thousands of turns.
func TestTwoLanes(t *testing.T) {
	rnd := rand.New(rand.NewSource(167))
	pairs := 0
	for range 100 {
		r := drawnRoad(rnd, 0)
		var weights, always []int
		for _, a := range r.lanes {
			weights = append(weights, a.Weight)
		}
		weights = counted(weights)
		for i, w := range weights {
			if w > 0 && rnd.Intn(3) > 0 {
				always = append(always, i)
			}
		}
		all := scales(always, weights, brought(r.quantum, 1, 2))
		pairs += len(all)
		for range 2000 {
			for i := range r.lanes {
				if slices.Contains(always, i) {
					r.come(i, max(9+rnd.Intn(3)-len(r.due[i]), 0)) // one is left behind each turn
				} else if rnd.Intn(9) == 0 {
					r.come(i, rnd.Intn(5))
				}
			}
			x := r.serve(t)
			for _, s := range all {
				s.got(x, weights)
			}
		}
		for _, s := range all {
			if s.most-s.least > s.bound {
				t.Fatalf("Weights %v by %d: lanes %d and %d differ by %d, not %d", weights, r.quantum, s.i, s.j, s.most-s.least, s.bound)
			}
		}
	}
	if pairs < 500 {
		t.Errorf("only %d pairs: the test tells too little", pairs)
	}
}

// TestRounds: P16.3, behind each whole round each lane that always has a Backlog has got its Weight times the quantum once more, and no other lane's leaves change that.
func TestRounds(t *testing.T) {
	rnd := rand.New(rand.NewSource(168))
	for range 100 {
		r := drawnRoad(rnd, 0)
		quantum := brought(r.quantum, 1, 2)
		var weights []int
		for i, a := range r.lanes {
			weights = append(weights, a.Weight)
			r.come(i, 9)
		}
		weights = counted(weights)
		taken := make([]int, len(weights))
		for round := 1; round <= 100; round++ {
			for range r.taking {
				x := r.serve(t)
				taken[x.Lane] += x.Take
				r.come(x.Lane, x.Take)
			}
			for i, w := range weights {
				if taken[i] != round*w*quantum {
					t.Fatalf("Weights %v by %d: behind %d rounds lane %d got %d", weights, quantum, round, i, taken[i])
				}
			}
		}
	}
}

// TestNothingIsSavedUp: P16.3, lanes whose Deficit began at 0 have none behind any turn, so that who had nothing for long gets no more than its share when leaves come.
func TestNothingIsSavedUp(t *testing.T) {
	rnd := rand.New(rand.NewSource(169))
	for range 100 {
		r := drawnRoad(rnd, 0)
		for range 500 {
			i := rnd.Intn(len(r.lanes))
			if rnd.Intn(20) == 0 {
				r.come(i, 64-len(r.due[i]))
			}
			x := r.serve(t)
			if most := brought(r.lanes[x.Lane].Weight, 1, 4) * brought(r.quantum, 1, 2); x.Take > most || r.lanes[x.Lane].Deficit != 0 {
				t.Fatalf("by %d: %v leaves %v", r.quantum, x, r.lanes[x.Lane])
			}
		}
	}
}
