package keys_test

import (
	"go/ast"
	"go/parser"
	"go/token"
	"testing"
)

// isSlices tells whether a type is a list of slices, with one for each tree.
func isSlices(e ast.Expr) bool {
	outer, ok := e.(*ast.ArrayType)
	if !ok {
		return false
	}
	inner, ok := outer.Elt.(*ast.ArrayType)
	return ok && inner.Len == nil
}

// TestRingKeepsSlices: the chapter's section 'Ways': a ring is an object, with methods, that keeps a slice for each tree.
func TestRingKeepsSlices(t *testing.T) {
	file, err := parser.ParseFile(token.NewFileSet(), "ring.go", nil, 0)
	if err != nil {
		t.Fatal(err)
	}
	keeps, methods := false, map[string]int{}
	ast.Inspect(file, func(n ast.Node) bool {
		switch x := n.(type) {
		case *ast.TypeSpec:
			if s, ok := x.Type.(*ast.StructType); ok && x.Name.Name == "Ring" {
				for _, f := range s.Fields.List {
					keeps = keeps || isSlices(f.Type)
				}
			}
		case *ast.FuncDecl:
			if x.Recv != nil {
				methods[x.Name.Name]++
			}
		}
		return true
	})
	if !keeps {
		t.Error("a ring keeps no slice for each tree")
	}
	for _, name := range []string{"Turn", "Epoch", "Sign", "Holds"} {
		if methods[name] != 1 {
			t.Errorf("%s is no method", name)
		}
	}
}
