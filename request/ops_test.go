package request_test

import (
	"slices"
	"testing"

	"deponent/api"
	"deponent/request"
)

// wantOp asks what Trees and Admin tell of an operation.
func wantOp(t *testing.T, op int, trees, admin bool) {
	t.Helper()
	if request.Trees(op) != trees || request.Admin(op) != admin {
		t.Errorf("operation %d: Trees %v, Admin %v, not %v, %v", op, !trees, !admin, trees, admin)
	}
}

// TestTreesAndAdmin: P18.4, of every operation, written out.
func TestTreesAndAdmin(t *testing.T) {
	for _, c := range []struct {
		op           int
		trees, admin bool
	}{
		{api.Add, true, false},
		{api.Look, true, false},
		{api.Entry, true, false},
		{api.Prove, true, false},
		{api.Compare, true, false},
		{api.Create, true, true},
		{api.Change, true, true},
		{api.Weigh, true, true},
		{api.Rotate, true, true},
		{api.Grant, false, true},
		{api.Revoke, false, true},
		{api.Limit, false, true},
	} {
		wantOp(t, c.op, c.trees, c.admin)
		if has(c.op, "Tree") != c.trees {
			t.Errorf("operation %d: the chapter's body has a Tree: %v", c.op, !c.trees)
		}
	}
}

// TestOfNoOperation: P18.4, of numbers that are none: neither.
func TestOfNoOperation(t *testing.T) {
	for _, op := range strangeOps {
		wantOp(t, op, false, false)
	}
	for op := -70000; op <= 70000; op++ {
		if !slices.Contains(ops, op) {
			wantOp(t, op, false, false)
		}
	}
}

// TestTreesIsOfTheBody: P18.4 beside P18.1: Trees tells just where another Tree makes another body.
func TestTreesIsOfTheBody(t *testing.T) {
	for _, op := range ops {
		one, _ := request.Body(set(filled(op), "Tree", 1))
		other, _ := request.Body(set(filled(op), "Tree", 2))
		if slices.Equal(one, other) == request.Trees(op) {
			t.Errorf("operation %d: bodies %x, %x, Trees %v", op, one, other, request.Trees(op))
		}
	}
}
