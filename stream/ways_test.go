package stream

import (
	"go/ast"
	"go/parser"
	"go/token"
	"testing"
)

// Of DOC.md's Ways, layer 6: the loop over packets has a label.

func TestTheLoopOverPacketsHasALabel(t *testing.T) {
	functions := functionsOf(t)
	found := 0
	for name, f := range functions {
		ast.Inspect(f, func(n ast.Node) bool {
			labeled, ok := n.(*ast.LabeledStmt)
			if !ok {
				return true
			}
			loop, ok := labeled.Stmt.(*ast.ForStmt)
			if !ok {
				t.Errorf("the label %s of %s is none of a loop", labeled.Label.Name, name)
				return true
			}
			if !uses(loop, "first") {
				t.Errorf("the loop %s of %s is not over packets", labeled.Label.Name, name)
			}
			if !leaves(loop, labeled.Label.Name) {
				t.Errorf("no statement within the loop names its label %s", labeled.Label.Name)
			}
			found++
			for _, caller := range []string{"Split", "Feed"} {
				if functions[caller] == nil || !uses(functions[caller], name) {
					t.Errorf("%s does not go through packets by %s", caller, name)
				}
			}
			return true
		})
	}
	if found != 1 {
		t.Errorf("%d loops have a label", found)
	}
}

// functionsOf are those of the package by their names, methods too.
func functionsOf(t *testing.T) map[string]*ast.FuncDecl {
	t.Helper()
	file, err := parser.ParseFile(token.NewFileSet(), "stream.go", nil, 0)
	if err != nil {
		t.Fatal(err)
	}
	out := map[string]*ast.FuncDecl{}
	for _, d := range file.Decls {
		if f, ok := d.(*ast.FuncDecl); ok {
			out[f.Name.Name] = f
		}
	}
	return out
}

// uses tells whether a name stands in a piece of the program.
func uses(in ast.Node, name string) bool {
	found := false
	ast.Inspect(in, func(n ast.Node) bool {
		id, ok := n.(*ast.Ident)
		found = found || ok && id.Name == name
		return true
	})
	return found
}

// leaves tells whether a switch within a loop leaves the loop by its label.
func leaves(loop ast.Node, label string) bool {
	found := false
	ast.Inspect(loop, func(n ast.Node) bool {
		s, ok := n.(*ast.SwitchStmt)
		if !ok {
			return true
		}
		ast.Inspect(s, func(n ast.Node) bool {
			b, ok := n.(*ast.BranchStmt)
			found = found || ok && b.Label != nil && b.Label.Name == label
			return true
		})
		return true
	})
	return found
}
