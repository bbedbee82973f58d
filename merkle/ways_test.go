package merkle_test

import (
	"go/ast"
	"go/parser"
	"go/token"
	"testing"
)

// callsItself tells whether a function has a closure that is kept in a variable, and calls it by that variable.
func callsItself(f *ast.FuncDecl) bool {
	found := false
	ast.Inspect(f, func(n ast.Node) bool {
		kept, ok := n.(*ast.AssignStmt)
		if !ok || len(kept.Lhs) != 1 || len(kept.Rhs) != 1 {
			return true
		}
		name, named := kept.Lhs[0].(*ast.Ident)
		closure, made := kept.Rhs[0].(*ast.FuncLit)
		if !named || !made {
			return true
		}
		ast.Inspect(closure.Body, func(n ast.Node) bool {
			if call, ok := n.(*ast.CallExpr); ok {
				called, plain := call.Fun.(*ast.Ident)
				found = found || plain && called.Name == name.Name
			}
			return true
		})
		return true
	})
	return found
}

// TestRootIsAClosure: the chapter's section 'Ways'.
func TestRootIsAClosure(t *testing.T) {
	file, err := parser.ParseFile(token.NewFileSet(), "merkle.go", nil, 0)
	if err != nil {
		t.Fatal(err)
	}
	for _, d := range file.Decls {
		if f, ok := d.(*ast.FuncDecl); ok && f.Name.Name == "Root" && f.Recv == nil {
			if !callsItself(f) {
				t.Error("Root has no closure that calls itself")
			}
			return
		}
	}
	t.Error("there is no Root")
}
