package life_test

import (
	"slices"
	"testing"

	"deponent/api"
	"deponent/life"
)

// wantedNext goes by the chapter's words: of all states those that may follow, rising.
func wantedNext(from, waiting int) []int {
	var l []int
	for _, to := range states {
		if wantedMay(from, to, waiting) {
			l = append(l, to)
		}
	}
	return l
}

// wantNext holds Next against what it must be.
func wantNext(t *testing.T, from, waiting int, want []int) {
	t.Helper()
	if got := life.Next(from, waiting); !slices.Equal(got, want) {
		t.Errorf("Next(%d, %d): %v, not %v", from, waiting, got, want)
	}
}

// TestNextWrittenOut: P17.1, every state, with and without waiting, written out.
func TestNextWrittenOut(t *testing.T) {
	for _, waiting := range waits() {
		wantNext(t, api.Active, waiting, []int{2, 3})
		wantNext(t, api.Frozen, waiting, []int{1, 3, 4})
		wantNext(t, api.Deleted, waiting, nil)
	}
	wantNext(t, api.Draining, 0, []int{2, 4})
	for _, waiting := range append(some(), below()...) {
		wantNext(t, api.Draining, waiting, []int{2})
	}
}

// TestNext: P17.1, every number, with and without waiting.
func TestNext(t *testing.T) {
	for _, from := range numbers() {
		for _, waiting := range waits() {
			wantNext(t, from, waiting, wantedNext(from, waiting))
		}
	}
	for from := -300; from <= 300; from++ {
		for waiting := -70; waiting <= 70; waiting++ {
			wantNext(t, from, waiting, wantedNext(from, waiting))
		}
	}
}

// TestNextOfStrange: P17.1, nothing follows a number that is no state.
func TestNextOfStrange(t *testing.T) {
	for _, from := range strange {
		for _, waiting := range waits() {
			wantNext(t, from, waiting, nil)
		}
	}
}

// TestNextIsWhatMayAllows: P17.1, just the states that May allows, rising, each of them once, and each of them a state.
func TestNextIsWhatMayAllows(t *testing.T) {
	for _, from := range numbers() {
		for _, waiting := range waits() {
			got := life.Next(from, waiting)
			for _, to := range numbers() {
				if slices.Contains(got, to) != life.May(from, to, waiting) {
					t.Errorf("Next(%d, %d): %v, though May(%d, %d, %d): %v", from, waiting, got, from, to, waiting, life.May(from, to, waiting))
				}
			}
			for i, to := range got {
				if !slices.Contains(states, to) || i > 0 && to <= got[i-1] {
					t.Errorf("Next(%d, %d): %v", from, waiting, got)
				}
			}
		}
	}
}
