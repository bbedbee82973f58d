package life_test

import (
	"math/rand"
	"slices"
	"testing"

	"deponent/api"
	"deponent/life"
)

// TestDeeds: P17.1, every state: which ones add, serve and run.
func TestDeeds(t *testing.T) {
	type deeds struct{ adds, serves, runs bool }
	for state, want := range map[int]deeds{
		api.Active:   {true, true, true},
		api.Frozen:   {false, true, false},
		api.Draining: {false, true, true},
		api.Deleted:  {false, false, false},
	} {
		if got := (deeds{life.Adds(state), life.Serves(state), life.Runs(state)}); got != want {
			t.Errorf("state %d: %v, not %v", state, got, want)
		}
	}
}

// TestDeedsOfStrange: P17.1, a number that is no state neither adds nor serves nor runs.
func TestDeedsOfStrange(t *testing.T) {
	all := slices.Clone(strange)
	for n := -70000; n <= 70000; n++ {
		if !slices.Contains(states, n) {
			all = append(all, n)
		}
	}
	for _, n := range all {
		if life.Adds(n) || life.Serves(n) || life.Runs(n) {
			t.Errorf("%d: %v, %v, %v", n, life.Adds(n), life.Serves(n), life.Runs(n))
		}
	}
}

// TestWhatRunsServes: P17.2, what runs serves, and what adds runs; there is one that serves and does not run, and one that runs and does not add.
func TestWhatRunsServes(t *testing.T) {
	var adds, runs, serves int
	for _, n := range numbers() {
		if life.Runs(n) && !life.Serves(n) {
			t.Errorf("%d runs and does not serve", n)
		}
		if life.Adds(n) && !life.Runs(n) {
			t.Errorf("%d adds and does not run", n)
		}
		for _, c := range []struct {
			does  bool
			count *int
		}{{life.Adds(n), &adds}, {life.Runs(n), &runs}, {life.Serves(n), &serves}} {
			if c.does {
				*c.count++
			}
		}
	}
	if adds != 1 || runs != 2 || serves != 3 {
		t.Errorf("%d add, %d run, %d serve", adds, runs, serves)
	}
}

// TestDeletedIsTheEnd: P17.2, nothing follows it, and it does nothing; of all states it alone is such an end.
func TestDeletedIsTheEnd(t *testing.T) {
	for _, waiting := range waits() {
		for _, to := range numbers() {
			if life.May(api.Deleted, to, waiting) {
				t.Errorf("May(Deleted, %d, %d)", to, waiting)
			}
		}
		for _, state := range states {
			if end := len(life.Next(state, waiting)) == 0; end != (state == api.Deleted) {
				t.Errorf("Next(%d, %d): %v", state, waiting, life.Next(state, waiting))
			}
		}
	}
	if life.Adds(api.Deleted) || life.Serves(api.Deleted) || life.Runs(api.Deleted) {
		t.Error("Deleted does something")
	}
}

// reached are the states that some steps lead to, from one on, that one too; rising.
func reached(from, waiting int) []int {
	l := []int{from}
	for i := 0; i < len(l); i++ {
		for _, to := range life.Next(l[i], waiting) {
			if !slices.Contains(l, to) {
				l = append(l, to)
			}
		}
	}
	slices.Sort(l)
	return l
}

// TestLives: P17.1, P17.2, from each state but Deleted each state is reached, whatever waits; from Deleted none but itself.
func TestLives(t *testing.T) {
	for _, waiting := range waits() {
		for _, state := range states[:3] {
			if got := reached(state, waiting); !slices.Equal(got, states) {
				t.Errorf("from %d with %d waiting: %v", state, waiting, got)
			}
		}
		if got := reached(api.Deleted, waiting); !slices.Equal(got, states[3:]) {
			t.Errorf("from Deleted with %d waiting: %v", waiting, got)
		}
	}
}

// TestDrawnLives: P17.1, P17.2, a tree that drains and is deleted at once has nothing waiting; a tree that was deleted stays so, whatever is tried.
func TestDrawnLives(t *testing.T) {
	rnd := rand.New(rand.NewSource(171))
	ended := 0
	for range 3000 {
		state, end := api.Active, false
		for range 30 {
			to, waiting := rnd.Intn(7)-1, rnd.Intn(3)
			if !life.May(state, to, waiting) {
				continue
			}
			if end || state == to || to == api.Deleted && state != api.Frozen && (state != api.Draining || waiting > 0) {
				t.Fatalf("from %d to %d with %d waiting", state, to, waiting)
			}
			state, end = to, to == api.Deleted
		}
		if end {
			ended++
		}
	}
	if ended < 1000 {
		t.Errorf("%d of 3000 have ended", ended)
	}
}
