package request_test

import (
	"go/ast"
	"go/parser"
	gotoken "go/token"
	"go/types"
	"slices"
	"testing"
)

// fallsThrough tells whether a case of a switch ends with a fallthrough.
func fallsThrough(c *ast.CaseClause) bool {
	if len(c.Body) == 0 {
		return false
	}
	last, ok := c.Body[len(c.Body)-1].(*ast.BranchStmt)
	return ok && last.Tok == gotoken.FALLTHROUGH
}

// chains are the runs of cases of a switch of which each but the last falls through to the next.
func chains(s *ast.SwitchStmt) [][]string {
	var all [][]string
	var l []string
	for _, stmt := range s.Body.List {
		c := stmt.(*ast.CaseClause)
		for _, e := range c.List {
			l = append(l, types.ExprString(e))
		}
		if fallsThrough(c) {
			continue
		}
		if len(c.List) < len(l) {
			all = append(all, l)
		}
		l = nil
	}
	return all
}

// TestFieldsFallThrough: the chapter's section 'Ways': the switch of fields falls through from an operation to those that have one field fewer.
func TestFieldsFallThrough(t *testing.T) {
	file, err := parser.ParseFile(gotoken.NewFileSet(), "request.go", nil, 0)
	if err != nil {
		t.Fatal(err)
	}
	found := false
	ast.Inspect(file, func(n ast.Node) bool {
		if s, ok := n.(*ast.SwitchStmt); ok {
			found = found || slices.EqualFunc(chains(s), [][]string{
				{"api.Prove", "api.Compare", "api.Entry", "api.Look", "api.Rotate"},
				{"api.Create", "api.Weigh"},
			}, slices.Equal)
		}
		return true
	})
	if !found {
		t.Error("no switch falls through from Prove and Compare by way of Entry down to Look and Rotate, and from Create to Weigh")
	}
}
