package life_test

import (
	"math"
	"math/bits"
	"slices"
	"testing"

	"deponent/api"
	"deponent/life"
)

// The calls have these signatures.
var (
	_ func(from, to, waiting int) bool  = life.May
	_ func(state int) bool              = life.Adds
	_ func(state int) bool              = life.Serves
	_ func(state int) bool              = life.Runs
	_ func(from int, waiting int) []int = life.Next
)

const half = 1 << (bits.UintSize / 2)

// states are all that there are, rising.
var states = []int{api.Active, api.Frozen, api.Draining, api.Deleted}

// strange are numbers of no state: beside the states, those whose lowest bytes are a state's, and at the ends of int and of its parts.
var strange = []int{
	0, -1, -2, -3, -4, -5, 5, 6, 7, 8, 9, 12, 16, 127, 128, 129, -128, -127, 255, 256, 257, 258, 259, 260, -255, -254, -253, -252,
	65535, 65536, 65537, 65538, 65539, 65540, -65535, -65534, -65533, -65532, math.MaxInt32 - 1, math.MaxInt32, math.MinInt32, math.MinInt32 + 1, math.MinInt32 + 3,
	half, half + 1, half + 2, half + 3, half + 4, half - 1, -half, -half + 1, -half + 2, -half + 3, -half + 4,
	math.MinInt, math.MinInt + 1, math.MinInt + 2, math.MinInt + 3, math.MinInt + 4, math.MaxInt - 4, math.MaxInt - 3, math.MaxInt - 2, math.MaxInt - 1, math.MaxInt,
}

// numbers are the states and what is none.
func numbers() []int { return slices.Concat(states, strange) }

// some are how many wait, where something does: one, many, a full queue, more, and numbers whose lowest bytes are 0.
func some() []int {
	return []int{1, 2, 3, 4, 5, api.MaxQueue - 1, api.MaxQueue, api.MaxQueue + 1, 255, 256, 1024, 65536, math.MaxInt32, half, math.MaxInt - 1, math.MaxInt}
}

// below are how many wait, where the number is below 0, which is not 0 either.
func below() []int {
	return []int{-1, -2, -3, -api.MaxQueue, -256, -65536, math.MinInt32, -half, math.MinInt + 1, math.MinInt}
}

// waits are all of them, 0 too.
func waits() []int { return slices.Concat([]int{0}, some(), below()) }

// step is a way from one state to another.
type step struct{ from, to int }

// always are the steps that the chapter lets be taken, whatever waits, in its order.
func always() []step {
	return []step{
		{api.Active, api.Frozen}, {api.Active, api.Draining},
		{api.Frozen, api.Active}, {api.Frozen, api.Draining}, {api.Frozen, api.Deleted},
		{api.Draining, api.Frozen},
	}
}

// wantedMay goes by the chapter's words.
func wantedMay(from, to, waiting int) bool {
	asked := step{from, to}
	return slices.Contains(always(), asked) || waiting == 0 && asked == step{api.Draining, api.Deleted}
}

// TestNumbers: what the tests take for states is all there is, so that strange numbers are strange.
func TestNumbers(t *testing.T) {
	if !slices.Equal(states, []int{1, 2, 3, 4}) {
		t.Fatalf("states %v", states)
	}
	for _, n := range strange {
		if slices.Contains(states, n) {
			t.Errorf("%d is not strange", n)
		}
	}
	if slices.Contains(some(), 0) || slices.Contains(below(), 0) || slices.Min(some()) < 0 || slices.Max(below()) > 0 {
		t.Errorf("waiting: %v, %v", some(), below())
	}
}

// TestRuns: the chapter's table.
func TestRuns(t *testing.T) {
	if life.May(api.Active, api.Deleted, 0) {
		t.Error("May(Active, Deleted, 0)")
	}
	if life.May(api.Draining, api.Deleted, 1) {
		t.Error("May(Draining, Deleted, 1)")
	}
	if !life.May(api.Frozen, api.Deleted, 1) {
		t.Error("May(Frozen, Deleted, 1)")
	}
	if got := life.Next(api.Draining, 0); !slices.Equal(got, []int{2, 4}) {
		t.Errorf("Next(Draining, 0): %v", got)
	}
}

// TestExamples: the chapter's examples.
func TestExamples(t *testing.T) {
	if life.May(0, api.Active, 0) {
		t.Error("May(0, Active, 0)")
	}
	if got := life.Next(api.Deleted, 0); len(got) != 0 {
		t.Errorf("Next(Deleted, 0): %v", got)
	}
	for _, state := range states {
		if life.May(state, state, 0) {
			t.Errorf("May(%d, %d, 0)", state, state)
		}
	}
}
