package life_test

import (
	"go/ast"
	"go/parser"
	"go/token"
	"go/types"
	"slices"
	"testing"
)

// fallsThrough tells whether a case of a switch ends with a fallthrough.
func fallsThrough(c *ast.CaseClause) bool {
	if len(c.Body) == 0 {
		return false
	}
	last, ok := c.Body[len(c.Body)-1].(*ast.BranchStmt)
	return ok && last.Tok == token.FALLTHROUGH
}

// fallen are the cases that a switch falls through, from the first one that does to the one where it ends.
func fallen(s *ast.SwitchStmt) []string {
	var l []string
	for _, stmt := range s.Body.List {
		c := stmt.(*ast.CaseClause)
		through := fallsThrough(c)
		if !through && len(l) == 0 {
			continue
		}
		for _, e := range c.List {
			l = append(l, types.ExprString(e))
		}
		if !through {
			break
		}
	}
	return l
}

// TestStatesFallThrough: the chapter's section 'Ways': the switch of states falls through from the one that does most to the one that does least.
func TestStatesFallThrough(t *testing.T) {
	file, err := parser.ParseFile(token.NewFileSet(), "life.go", nil, 0)
	if err != nil {
		t.Fatal(err)
	}
	found := false
	ast.Inspect(file, func(n ast.Node) bool {
		if s, ok := n.(*ast.SwitchStmt); ok {
			found = found || slices.Equal(fallen(s), []string{"api.Active", "api.Draining", "api.Frozen"})
		}
		return true
	})
	if !found {
		t.Error("no switch falls through from Active by way of Draining down to Frozen")
	}
}
