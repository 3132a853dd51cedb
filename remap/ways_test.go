package remap

import (
	"go/ast"
	"go/parser"
	"go/token"
	"go/types"
	"slices"
	"testing"
)

// Of DOC.md's Ways, layer 10: directions are numbered by iota.

func TestDirectionsAreNumberedInOrder(t *testing.T) {
	const first, last = Out, Both // does not compile unless they are constants
	for i, d := range []Direction{first, In, last} {
		if int(d) != i {
			t.Errorf("the direction at %d is %d", i, d)
		}
	}
}

func TestDirectionsAreNumberedByIota(t *testing.T) {
	file, err := parser.ParseFile(token.NewFileSet(), "remap.go", nil, 0)
	if err != nil {
		t.Fatal(err)
	}
	if got := numbered(file); !slices.Equal(got, []string{"Out", "In", "Both"}) {
		t.Errorf("iota numbers %q", got)
	}
	// They must carry the weight: what a rule's direction is held against are these constants, not numbers.
	for _, name := range []string{"Out", "In", "Both"} {
		if uses(file, name) < 2 {
			t.Errorf("%s is not asked for", name)
		}
	}
	if l := heldAgainstNumbers(file); len(l) > 0 {
		t.Errorf("directions are held against numbers: %q", l)
	}
}

// numbered are the names of the group of constants of type Direction, all of which iota alone numbers.
func numbered(file *ast.File) []string {
	for _, d := range file.Decls {
		group, ok := d.(*ast.GenDecl)
		if !ok || group.Tok != token.CONST {
			continue
		}
		first := group.Specs[0].(*ast.ValueSpec)
		if first.Type == nil || types.ExprString(first.Type) != "Direction" || len(first.Values) != 1 || types.ExprString(first.Values[0]) != "iota" {
			continue
		}
		var out []string
		for i, s := range group.Specs {
			if v := s.(*ast.ValueSpec); i == 0 || len(v.Values) == 0 {
				out = append(out, v.Names[0].Name)
			}
		}
		return out
	}
	return nil
}

// uses counts where a name stands.
func uses(file *ast.File, name string) int {
	n := 0
	ast.Inspect(file, func(x ast.Node) bool {
		if id, ok := x.(*ast.Ident); ok && id.Name == name {
			n++
		}
		return true
	})
	return n
}

// heldAgainstNumbers are the comparisons of a rule's direction with a number that is written out.
func heldAgainstNumbers(file *ast.File) []string {
	var out []string
	ast.Inspect(file, func(x ast.Node) bool {
		b, ok := x.(*ast.BinaryExpr)
		if !ok {
			return true
		}
		_, left := b.X.(*ast.BasicLit)
		_, right := b.Y.(*ast.BasicLit)
		if (left && direction(b.Y)) || (right && direction(b.X)) {
			out = append(out, types.ExprString(b))
		}
		return true
	})
	return out
}

func direction(x ast.Expr) bool {
	s, ok := x.(*ast.SelectorExpr)
	return ok && s.Sel.Name == "Dir"
}
