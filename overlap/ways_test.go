package overlap

import (
	"go/ast"
	"go/parser"
	"go/token"
	"go/types"
	"testing"
)

// Of DOC.md's Ways, layer 8: levels are told by closures.

const teller = "func(at int) string"

func TestLevelsAreToldByClosures(t *testing.T) {
	functions := functionsOf(t)
	for _, name := range []string{"shapeOf", "Witness"} {
		if n := tellers(functions[name]); n != 1 {
			t.Errorf("%s makes %d closures that tell levels", name, n)
		}
	}
	for _, name := range []string{"takes", "filled"} {
		if !isTold(functions[name]) {
			t.Errorf("%s is not told levels by a closure", name)
		}
	}
}

// functionsOf are those of the package by their names.
func functionsOf(t *testing.T) map[string]*ast.FuncDecl {
	t.Helper()
	file, err := parser.ParseFile(token.NewFileSet(), "overlap.go", nil, 0)
	if err != nil {
		t.Fatal(err)
	}
	out := map[string]*ast.FuncDecl{}
	for _, d := range file.Decls {
		if f, ok := d.(*ast.FuncDecl); ok {
			out[f.Name.Name] = f
		}
	}
	return out
}

// tellers counts the closures of a function that tell what stands at a level.
func tellers(f *ast.FuncDecl) int {
	found := 0
	ast.Inspect(f, func(n ast.Node) bool {
		literal, ok := n.(*ast.FuncLit)
		if ok && types.ExprString(literal.Type) == teller {
			found++
		}
		return true
	})
	return found
}

// isTold tells whether a function takes such a closure, and calls it.
func isTold(f *ast.FuncDecl) bool {
	if f == nil {
		return false
	}
	taken := ""
	for _, p := range f.Type.Params.List {
		if types.ExprString(p.Type) == teller {
			taken = p.Names[0].Name
		}
	}
	called := false
	ast.Inspect(f.Body, func(n ast.Node) bool {
		c, ok := n.(*ast.CallExpr)
		if ok {
			id, plain := c.Fun.(*ast.Ident)
			called = called || plain && id.Name == taken
		}
		return true
	})
	return called
}
