package verify_test

import (
	"go/ast"
	"go/parser"
	"go/token"
	"testing"
)

// labelledLoop tells whether a function has a loop with a label, and a break or continue to it out of a loop or switch inside of that one.
func labelledLoop(f *ast.FuncDecl) bool {
	found := false
	ast.Inspect(f, func(n ast.Node) bool {
		l, ok := n.(*ast.LabeledStmt)
		if !ok {
			return true
		}
		var body *ast.BlockStmt
		switch loop := l.Stmt.(type) {
		case *ast.ForStmt:
			body = loop.Body
		case *ast.RangeStmt:
			body = loop.Body
		default:
			return true
		}
		ast.Inspect(body, func(n ast.Node) bool {
			b, ok := n.(*ast.BranchStmt)
			found = found || ok && b.Label != nil && b.Label.Name == l.Label.Name && b.Tok != token.GOTO
			return true
		})
		return true
	})
	return found
}

// TestWaysUpAreLabelledLoops: the chapter's section 'Ways': the way up from a leaf, by which Leaf and Collide go, and that of Prefix.
func TestWaysUpAreLabelledLoops(t *testing.T) {
	file, err := parser.ParseFile(token.NewFileSet(), "way.go", nil, 0)
	if err != nil {
		t.Fatal(err)
	}
	loops := map[string]bool{}
	for _, d := range file.Decls {
		if f, ok := d.(*ast.FuncDecl); ok {
			loops[f.Name.Name] = labelledLoop(f)
		}
	}
	for _, name := range []string{"climb", "grow"} {
		if !loops[name] {
			t.Errorf("%s has no labelled loop", name)
		}
	}
}
