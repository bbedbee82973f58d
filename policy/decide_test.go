package policy_test

import (
	"errors"
	"fmt"
	"math"
	"slices"
	"testing"

	"deponent/api"
	"deponent/policy"
)

// errnos are all of api's numbers.
var errnos = []api.Errno{
	api.OK, api.ErrArg, api.ErrLong, api.ErrMany, api.ErrEnd, api.ErrTail, api.ErrForm, api.ErrDisk,
	api.ErrToken, api.ErrDenied, api.ErrQuota, api.ErrNone, api.ErrState, api.ErrRange, api.ErrFull, api.ErrTaken,
}

// tenants are those that there are, those about the ends of their numbers, and others.
var tenants = []int{0, 1, 2, 3, 4, 12, 15, 16, 17, 255, 256, 257, -1, -2, -15, -16, -256, half, half + 1, -half, math.MinInt, math.MinInt + 1, math.MaxInt - 1, math.MaxInt}

// pairs are of an owner and a tenant, alike and not.
func pairs() [][2]int {
	var l [][2]int
	for _, owner := range tenants {
		for _, tenant := range tenants {
			l = append(l, [2]int{owner, tenant})
		}
	}
	return l
}

// wantLet wants a nil error, which a nil *Refusal is not.
func wantLet(t *testing.T, role, op, owner, tenant int) {
	t.Helper()
	if err := policy.Decide(role, op, owner, tenant); err != nil {
		t.Errorf("Decide(%d, %d, %d, %d): %T", role, op, owner, tenant, err)
	}
}

// wantDenied wants a Refusal with its three fields.
func wantDenied(t *testing.T, role, op, owner, tenant int) {
	t.Helper()
	err := policy.Decide(role, op, owner, tenant)
	r, ok := err.(*policy.Refusal)
	if !ok || r == nil || *r != (policy.Refusal{Op: op, Role: role, Why: api.ErrDenied}) {
		t.Errorf("Decide(%d, %d, %d, %d): %#v", role, op, owner, tenant, err)
		return
	}
	if r.Error() == "" || r.Unwrap() != error(api.ErrDenied) {
		t.Errorf("Decide(%d, %d, %d, %d): %q, which wraps %v", role, op, owner, tenant, r.Error(), r.Unwrap())
	}
}

// wantFound wants errors.Is and errors.As to find a Refusal and its number, and no other number, through all that wraps it.
func wantFound(t *testing.T, r *policy.Refusal) {
	t.Helper()
	once := fmt.Errorf("asked: %w", r)
	for _, err := range []error{r, once, fmt.Errorf("again: %w", once), errors.Join(errors.New("another"), once)} {
		var found *policy.Refusal
		if !errors.As(err, &found) || found != r {
			t.Errorf("errors.As finds %#v in %v", found, err)
		}
		var number api.Errno
		if !errors.As(err, &number) || number != r.Why {
			t.Errorf("errors.As finds the number %d in %v", number, err)
		}
		for _, why := range errnos {
			if errors.Is(err, why) != (why == r.Why) {
				t.Errorf("errors.Is of %d in %v: %v", why, err, why != r.Why)
			}
		}
	}
}

// TestDecide: P13.2, every role and operation, of one tenant and of two.
func TestDecide(t *testing.T) {
	for _, role := range roles {
		for _, op := range ops {
			for _, p := range pairs() {
				if wantedMay(role, op) && (p[0] == p[1] || role == api.Owner) {
					wantLet(t, role, op, p[0], p[1])
				} else {
					wantDenied(t, role, op, p[0], p[1])
				}
			}
		}
	}
}

// TestDecideOfStrange: P13.2, of other roles and operations, of one tenant too, even where it has the number of a role.
func TestDecideOfStrange(t *testing.T) {
	few := [][2]int{{0, 0}, {1, 1}, {4, 4}, {-1, -1}, {1, 2}, {0, 1}, {4, 0}, {-1, 1}, {math.MinInt, math.MaxInt}, {math.MaxInt, math.MaxInt}}
	for _, p := range few {
		for _, role := range noRoles() {
			for _, op := range append(slices.Clone(ops), strange...) {
				wantDenied(t, role, op, p[0], p[1])
			}
		}
		for _, role := range roles {
			for _, op := range strange {
				wantDenied(t, role, op, p[0], p[1])
			}
		}
	}
}

// TestRefusalWraps: P13.2, R8 and 'Ways', of each refusal.
func TestRefusalWraps(t *testing.T) {
	for _, role := range append(noRoles(), roles...) {
		for _, op := range append(slices.Clone(ops), strange...) {
			for _, tenant := range []int{1, 2} {
				if err := policy.Decide(role, op, 1, tenant); err != nil {
					wantFound(t, err.(*policy.Refusal))
				}
			}
		}
	}
}

// TestUnwrapAnswersWhy: P13.2, whichever number it is.
func TestUnwrapAnswersWhy(t *testing.T) {
	for _, why := range errnos[1:] {
		r := &policy.Refusal{Op: api.Add, Role: api.Reader, Why: why}
		if r.Unwrap() != error(why) || r.Error() == "" {
			t.Errorf("%d: %v, %q", why, r.Unwrap(), r.Error())
		}
		wantFound(t, r)
	}
}

// TestRefusalsAreNew: P13.2, each call answers a Refusal of its own: what is done to one changes no other one, and no later answer.
func TestRefusalsAreNew(t *testing.T) {
	for _, role := range append(noRoles(), roles...) {
		for _, op := range append(slices.Clone(ops), strange...) {
			first, ok := policy.Decide(role, op, 1, 2).(*policy.Refusal)
			second, _ := policy.Decide(role, op, 1, 2).(*policy.Refusal)
			if !ok {
				continue
			}
			if first == second {
				t.Fatalf("Decide(%d, %d, 1, 2): one Refusal twice", role, op)
			}
			*first = policy.Refusal{Op: op + 1, Role: role + 1, Why: api.ErrArg}
			if *second != (policy.Refusal{Op: op, Role: role, Why: api.ErrDenied}) {
				t.Fatalf("Decide(%d, %d, 1, 2): %+v", role, op, *second)
			}
			wantDenied(t, role, op, 1, 2)
		}
	}
	TestDecide(t)
}
