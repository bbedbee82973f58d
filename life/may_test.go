package life_test

import (
	"testing"

	"deponent/api"
	"deponent/life"
)

// wantMay holds May against the chapter's words.
func wantMay(t *testing.T, from, to, waiting int) {
	t.Helper()
	if got := life.May(from, to, waiting); got != wantedMay(from, to, waiting) {
		t.Errorf("May(%d, %d, %d): %v", from, to, waiting, got)
	}
}

// TestMayWrittenOut: P17.1, every two states, with nothing waiting and with one leaf, written out.
func TestMayWrittenOut(t *testing.T) {
	none := [4][4]bool{
		{false, true, true, false},
		{true, false, true, true},
		{false, true, false, true},
		{false, false, false, false},
	}
	one := none
	one[2][3] = false
	for i, from := range states {
		for j, to := range states {
			if got := life.May(from, to, 0); got != none[i][j] {
				t.Errorf("May(%d, %d, 0): %v", from, to, got)
			}
			if got := life.May(from, to, 1); got != one[i][j] {
				t.Errorf("May(%d, %d, 1): %v", from, to, got)
			}
		}
	}
}

// TestMay: P17.1, every two states, with nothing waiting, one leaf, many, and a number below 0.
func TestMay(t *testing.T) {
	for _, from := range states {
		for _, to := range states {
			for _, waiting := range waits() {
				wantMay(t, from, to, waiting)
			}
			for waiting := -70; waiting <= 1100; waiting++ {
				wantMay(t, from, to, waiting)
			}
		}
	}
}

// TestMayOfStrange: P17.1, nothing else: a number that is no state follows none, and none follows it.
func TestMayOfStrange(t *testing.T) {
	for _, n := range strange {
		for _, other := range numbers() {
			for _, waiting := range waits() {
				if life.May(n, other, waiting) {
					t.Errorf("May(%d, %d, %d)", n, other, waiting)
				}
				if life.May(other, n, waiting) {
					t.Errorf("May(%d, %d, %d)", other, n, waiting)
				}
			}
		}
	}
	for from := -270; from <= 270; from++ {
		for to := -270; to <= 270; to++ {
			wantMay(t, from, to, 0)
			wantMay(t, from, to, 1)
		}
	}
}

// TestWaitingDecidesOneStep: P17.1, of all steps what waits decides on that from Draining to Deleted alone, and of what waits 0 alone lets it be taken.
func TestWaitingDecidesOneStep(t *testing.T) {
	for _, from := range numbers() {
		for _, to := range numbers() {
			for _, waiting := range append(some(), below()...) {
				free, got := life.May(from, to, 0), life.May(from, to, waiting)
				ends := from == api.Draining && to == api.Deleted
				if ends && (!free || got) || !ends && free != got {
					t.Errorf("May(%d, %d, 0): %v, May(%d, %d, %d): %v", from, to, free, from, to, waiting, got)
				}
			}
		}
	}
}

// TestNoStateFollowsItself: example 3, whatever waits, and of numbers that are no state as well; by Next too.
func TestNoStateFollowsItself(t *testing.T) {
	for _, state := range numbers() {
		for _, waiting := range waits() {
			if life.May(state, state, waiting) {
				t.Errorf("May(%d, %d, %d)", state, state, waiting)
			}
			for _, to := range life.Next(state, waiting) {
				if to == state {
					t.Errorf("Next(%d, %d) has it", state, waiting)
				}
			}
		}
	}
}

// TestFrozenLosesWhatWaits: P17.1, a Frozen tree is deleted, however much waits, and one that drains by way of Frozen.
func TestFrozenLosesWhatWaits(t *testing.T) {
	for _, waiting := range waits() {
		if !life.May(api.Frozen, api.Deleted, waiting) {
			t.Errorf("May(Frozen, Deleted, %d)", waiting)
		}
		if !life.May(api.Draining, api.Frozen, waiting) {
			t.Errorf("May(Draining, Frozen, %d)", waiting)
		}
	}
}

// TestSteps: P17.1, each step that the chapter lets be taken, whatever waits.
func TestSteps(t *testing.T) {
	for _, s := range always() {
		for _, waiting := range waits() {
			if !life.May(s.from, s.to, waiting) {
				t.Errorf("May(%d, %d, %d)", s.from, s.to, waiting)
			}
		}
	}
	if !life.May(api.Draining, api.Deleted, 0) {
		t.Error("May(Draining, Deleted, 0)")
	}
}
