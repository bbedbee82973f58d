package policy_test

import (
	"math"
	"math/bits"
	"slices"
	"testing"

	"deponent/api"
	"deponent/policy"
)

const half = 1 << (bits.UintSize / 2)

var (
	roles = []int{api.Reader, api.Writer, api.Keeper, api.Owner} // each one above those ahead of it
	ops   = []int{api.Add, api.Look, api.Entry, api.Prove, api.Compare, api.Create, api.Change, api.Weigh, api.Rotate, api.Grant, api.Revoke, api.Limit}
)

// strange are numbers of no role and of no operation: at the ends of int and of its halves, and those whose lowest bytes are a role's and an operation's.
var strange = []int{
	-1, -2, -3, -4, -5, -12, -13, -255, -256, 0, 13, 14, 15, 16, 17, 20, 127, 128, 129, 255, 256, 257, 258, 260, 268, 65535, 65536, 65537,
	math.MinInt32, math.MinInt32 + 1, math.MaxInt32 - 1, math.MaxInt32, half - 1, half, half + 1, half + 4, -half, -half + 1, -half + 12,
	math.MinInt, math.MinInt + 1, math.MinInt + 4, math.MaxInt - 1, math.MaxInt,
}

// noRoles are strange numbers, and those of operations that are no role's.
func noRoles() []int { return append([]int{5, 6, 7, 8, 9, 10, 11, 12}, strange...) }

// lowest is, of each operation, the lowest role that may do it, as the chapter names them one by one.
func lowest(op int) int {
	return map[int]int{
		api.Look: api.Reader, api.Entry: api.Reader, api.Prove: api.Reader, api.Compare: api.Reader,
		api.Add:    api.Writer,
		api.Change: api.Keeper, api.Weigh: api.Keeper, api.Rotate: api.Keeper,
		api.Create: api.Owner, api.Grant: api.Owner, api.Revoke: api.Owner, api.Limit: api.Owner,
	}[op]
}

// wantedMay is May for roles and operations that there are.
func wantedMay(role, op int) bool {
	return slices.Index(roles, role) >= slices.Index(roles, lowest(op))
}

// TestNumbers: what the tests take for roles and operations is all there is, so that strange numbers are strange.
func TestNumbers(t *testing.T) {
	if !slices.Equal(roles, []int{1, 2, 3, 4}) || !slices.Equal(ops, []int{1, 2, 3, 4, 5, 6, 7, 8, 9, 10, 11, 12}) {
		t.Fatalf("roles %v, operations %v", roles, ops)
	}
	for _, n := range strange {
		if slices.Contains(roles, n) || slices.Contains(ops, n) {
			t.Errorf("%d is not strange", n)
		}
	}
}

// TestMay: P13.1, every role and every operation.
func TestMay(t *testing.T) {
	for _, role := range roles {
		for _, op := range ops {
			if got := policy.May(role, op); got != wantedMay(role, op) {
				t.Errorf("May(%d, %d): %v", role, op, got)
			}
		}
	}
}

// TestMayOfStrange: P13.1, of other roles and operations: no.
func TestMayOfStrange(t *testing.T) {
	for _, role := range noRoles() {
		for _, op := range append(slices.Clone(ops), strange...) {
			if policy.May(role, op) {
				t.Errorf("May(%d, %d) of no role", role, op)
			}
		}
	}
	for _, role := range roles {
		for _, op := range strange {
			if policy.May(role, op) {
				t.Errorf("May(%d, %d) of no operation", role, op)
			}
		}
	}
	for role := -300; role <= 300; role++ {
		for op := -300; op <= 300; op++ {
			known := slices.Contains(roles, role) && slices.Contains(ops, op)
			if policy.May(role, op) && !known {
				t.Errorf("May(%d, %d)", role, op)
			}
		}
	}
}

// TestOps: P13.1, rising, and just those that May says.
func TestOps(t *testing.T) {
	for role, want := range map[int][]int{
		api.Reader: {api.Look, api.Entry, api.Prove, api.Compare},
		api.Writer: {api.Add, api.Look, api.Entry, api.Prove, api.Compare},
		api.Keeper: {api.Add, api.Look, api.Entry, api.Prove, api.Compare, api.Change, api.Weigh, api.Rotate},
		api.Owner:  ops,
	} {
		if got := policy.Ops(role); !slices.Equal(got, want) {
			t.Errorf("Ops(%d): %v, not %v", role, got, want)
		}
	}
	for _, role := range append(noRoles(), roles...) {
		var want []int
		for op := -20; op <= 300; op++ {
			if policy.May(role, op) {
				want = append(want, op)
			}
		}
		if got := policy.Ops(role); !slices.Equal(got, want) {
			t.Errorf("Ops(%d): %v, though May says %v", role, got, want)
		}
	}
}

// TestOpsOfStrange: P13.1, a number that is no role may nothing.
func TestOpsOfStrange(t *testing.T) {
	for _, role := range noRoles() {
		if got := policy.Ops(role); len(got) != 0 {
			t.Errorf("Ops(%d): %v", role, got)
		}
	}
}

// spoil changes all of a list, its spare room too.
func spoil(l []int) {
	l = l[:cap(l)]
	for i := range l {
		l[i] = -7 - i
	}
}

// TestOpsAreNew: R2, each answer is memory of its own, its spare room too: what is done to one changes no other one, and no later answer.
func TestOpsAreNew(t *testing.T) {
	for _, role := range append(noRoles(), roles...) {
		was := slices.Clone(policy.Ops(role))
		first, second := policy.Ops(role), policy.Ops(role)
		spoil(first)
		_ = append(first, 1, 2, 3)
		if !slices.Equal(second, was) {
			t.Fatalf("Ops(%d): two answers share memory: %v", role, second)
		}
		room := second[:cap(second)]
		whole := slices.Clone(room)
		spoil(policy.Ops(role))
		if !slices.Equal(room, whole) {
			t.Fatalf("Ops(%d): two answers share memory: %v, not %v", role, room, whole)
		}
		spoil(second)
		if got := policy.Ops(role); !slices.Equal(got, was) {
			t.Fatalf("Ops(%d): %v, not %v as ahead", role, got, was)
		}
	}
	TestMay(t)
	TestOps(t)
	TestDecide(t)
}

// TestHigherMay: P13.3, by May, by Ops and by Decide; and each role may more than the one below it.
func TestHigherMay(t *testing.T) {
	for i, low := range roles {
		for _, high := range roles[i+1:] {
			for _, op := range append(slices.Clone(ops), strange...) {
				if policy.May(low, op) && !policy.May(high, op) {
					t.Errorf("%d may %d, but %d may not", low, op, high)
				}
				for _, p := range pairs() {
					if policy.Decide(low, op, p[0], p[1]) == nil && policy.Decide(high, op, p[0], p[1]) != nil {
						t.Errorf("%d of %v is let do %d, but %d is not", low, p, op, high)
					}
				}
			}
			all := policy.Ops(high)
			for _, op := range policy.Ops(low) {
				if !slices.Contains(all, op) {
					t.Errorf("Ops(%d) has no %d, which Ops(%d) has", high, op, low)
				}
			}
			if len(all) <= len(policy.Ops(low)) {
				t.Errorf("%d may no more than %d", high, low)
			}
		}
	}
}

// TestRuns: the chapter's table.
func TestRuns(t *testing.T) {
	if !policy.May(api.Writer, api.Add) || policy.May(api.Reader, api.Add) || policy.May(api.Keeper, api.Grant) {
		t.Error("May")
	}
	if got := policy.Ops(api.Reader); !slices.Equal(got, []int{2, 3, 4, 5}) {
		t.Errorf("Ops(Reader): %v", got)
	}
	wantDenied(t, api.Writer, api.Add, 1, 2)
	wantLet(t, api.Owner, api.Add, 1, 2)
}

// TestExamples: the chapter's examples.
func TestExamples(t *testing.T) {
	if policy.May(0, api.Add) {
		t.Error("May(0, Add)")
	}
	if got := policy.Ops(9); len(got) != 0 {
		t.Errorf("Ops(9): %v", got)
	}
	for _, role := range roles {
		for _, op := range []int{0, 13, 99, -1} {
			wantDenied(t, role, op, 1, 1)
			wantDenied(t, role, op, 1, 2)
		}
	}
}
