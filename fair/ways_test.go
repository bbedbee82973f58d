package fair_test

import (
	"go/ast"
	"go/parser"
	"go/token"
	"testing"
)

// bodyOf answers what a loop goes through, nil of anything else.
func bodyOf(n ast.Node) *ast.BlockStmt {
	switch loop := n.(type) {
	case *ast.ForStmt:
		return loop.Body
	case *ast.RangeStmt:
		return loop.Body
	}
	return nil
}

// leftFromInside tells whether a loop is left, or gone on with, by its label out of a loop inside of it.
func leftFromInside(l *ast.LabeledStmt) bool {
	body := bodyOf(l.Stmt)
	if body == nil {
		return false
	}
	found := false
	ast.Inspect(body, func(n ast.Node) bool {
		inner := bodyOf(n)
		if inner == nil {
			return true
		}
		ast.Inspect(inner, func(n ast.Node) bool {
			b, ok := n.(*ast.BranchStmt)
			found = found || ok && b.Label != nil && b.Label.Name == l.Label.Name && b.Tok != token.GOTO
			return true
		})
		return true
	})
	return found
}

// TestFindIsALabelledLoop: the chapter's section 'Ways'.
func TestFindIsALabelledLoop(t *testing.T) {
	file, err := parser.ParseFile(token.NewFileSet(), "fair.go", nil, 0)
	if err != nil {
		t.Fatal(err)
	}
	found := false
	for _, d := range file.Decls {
		if f, ok := d.(*ast.FuncDecl); ok && f.Name.Name == "find" {
			ast.Inspect(f, func(n ast.Node) bool {
				l, ok := n.(*ast.LabeledStmt)
				found = found || ok && leftFromInside(l)
				return true
			})
		}
	}
	if !found {
		t.Error("find has no labelled loop")
	}
}
