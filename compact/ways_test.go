package compact_test

import (
	"go/ast"
	"go/parser"
	"go/token"
	"testing"
)

// goesOnFromInside tells whether a loop has a break or continue to its label out of a loop inside of it.
func goesOnFromInside(l *ast.LabeledStmt) bool {
	loop, ok := l.Stmt.(*ast.ForStmt)
	if !ok {
		return false
	}
	found := false
	ast.Inspect(loop.Body, func(n ast.Node) bool {
		inner, ok := n.(*ast.ForStmt)
		if !ok {
			return true
		}
		ast.Inspect(inner.Body, func(n ast.Node) bool {
			b, ok := n.(*ast.BranchStmt)
			found = found || ok && b.Label != nil && b.Label.Name == l.Label.Name && b.Tok != token.GOTO
			return true
		})
		return true
	})
	return found
}

// TestBlocksAreALabelledLoop: the chapter's section 'Ways'.
func TestBlocksAreALabelledLoop(t *testing.T) {
	file, err := parser.ParseFile(token.NewFileSet(), "block.go", nil, 0)
	if err != nil {
		t.Fatal(err)
	}
	found := false
	for _, d := range file.Decls {
		if f, ok := d.(*ast.FuncDecl); ok && f.Name.Name == "Blocks" {
			ast.Inspect(f, func(n ast.Node) bool {
				l, ok := n.(*ast.LabeledStmt)
				found = found || ok && goesOnFromInside(l)
				return true
			})
		}
	}
	if !found {
		t.Error("Blocks has no labelled loop")
	}
}
