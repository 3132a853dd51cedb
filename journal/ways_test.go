package journal

import (
	"go/ast"
	"go/parser"
	"go/token"
	"go/types"
	"slices"
	"strings"
	"testing"

	"aqueduct/api"
)

// Of DOC.md's Ways, layer 12: what is done with the disk is a row of closures; a byte's bits are gone through by a range over an integer.

// They carry the weight: nothing is done with the disk but in a closure that stands in a row.
func TestWhatIsDoneWithTheDiskIsARowOfClosures(t *testing.T) {
	file := parsed(t, "journal.go")
	steps := stepsOf(file)
	done := map[string]int{}
	ast.Inspect(file, func(n ast.Node) bool {
		c, ok := n.(*ast.CallExpr)
		if !ok {
			return true
		}
		name := ofDisk(c)
		if name == "" {
			return true
		}
		done[name]++
		if !slices.ContainsFunc(steps, func(f *ast.FuncLit) bool { return f.Pos() <= c.Pos() && c.End() <= f.End() }) {
			t.Errorf("%s is done outside of a row", types.ExprString(c))
		}
		return true
	})
	// Add and a laying append, Sync and a laying sync, a laying clears, and one place reads both files.
	for name, want := range map[string]int{"Append": 2, "Sync": 2, "Clear": 1, "Read": 1} {
		if done[name] != want {
			t.Errorf("%s is done at %d places, not %d", name, done[name], want)
		}
	}
	for _, name := range []string{"frame.go", "file.go"} {
		for _, i := range parsed(t, name).Imports {
			if i.Path.Value == `"aqueduct/disk"` {
				t.Errorf("%s may use the disk", name)
			}
		}
	}
}

// stepsOf are the function literals that stand in a row, or are laid behind those of one.
func stepsOf(file *ast.File) []*ast.FuncLit {
	var out []*ast.FuncLit
	take := func(parts []ast.Expr) {
		for _, x := range parts {
			if f, ok := x.(*ast.FuncLit); ok {
				out = append(out, f)
			}
		}
	}
	ast.Inspect(file, func(n ast.Node) bool {
		switch n := n.(type) {
		case *ast.CompositeLit:
			if n.Type != nil && types.ExprString(n.Type) == "row" {
				take(n.Elts)
			}
		case *ast.CallExpr:
			if types.ExprString(n.Fun) == "append" && types.ExprString(n.Args[0]) == "r" {
				take(n.Args[1:])
			}
		}
		return true
	})
	return out
}

// ofDisk is the name of the disk's method that a call is of; empty, if it is none.
func ofDisk(c *ast.CallExpr) string {
	s, ok := c.Fun.(*ast.SelectorExpr)
	if !ok {
		return ""
	}
	of := types.ExprString(s.X)
	if of == "d" || strings.HasSuffix(of, ".disk") {
		return s.Sel.Name
	}
	return ""
}

// A row's steps are done in order, once each, up to the first code.
func TestRowIsDoneUpToTheFirstCode(t *testing.T) {
	for bad := range 5 {
		var done []int
		var r row
		for i := range 4 {
			r = append(r, func() api.Code {
				done = append(done, i)
				if i >= bad {
					return api.Code(200 + i)
				}
				return api.OK
			})
		}
		want, all := api.Code(200+bad), []int{0, 1, 2, 3}
		if bad == 4 {
			want = api.OK
		}
		if got := r.do(); got != want || !slices.Equal(done, all[:min(bad+1, 4)]) {
			t.Errorf("with a code at %d: %d, behind the steps %d", bad, got, done)
		}
	}
	if code := row(nil).do(); code != api.OK {
		t.Errorf("no steps: %d", code)
	}
}

func TestBitsAreGoneThroughByARangeOverAnInteger(t *testing.T) {
	var _ [8]struct{} = [bitsOfByte]struct{}{}
	inner := 0
	ast.Inspect(parsed(t, "frame.go"), func(n ast.Node) bool {
		f, ok := n.(*ast.FuncDecl)
		if !ok || f.Name.Name != "Sum" {
			return true
		}
		for _, s := range rangesIn(f.Body) {
			for _, in := range rangesIn(s.Body) {
				if types.ExprString(in.X) == "bitsOfByte" && in.Key == nil {
					inner++
				}
			}
		}
		ast.Inspect(f, func(n ast.Node) bool {
			if _, other := n.(*ast.ForStmt); other {
				t.Error("Sum has a loop of another kind")
			}
			return true
		})
		return false
	})
	if inner != 1 {
		t.Errorf("%d loops over bits", inner)
	}
}

// rangesIn are the loops that stand in a block itself.
func rangesIn(b *ast.BlockStmt) []*ast.RangeStmt {
	var out []*ast.RangeStmt
	for _, s := range b.List {
		if r, ok := s.(*ast.RangeStmt); ok {
			out = append(out, r)
		}
	}
	return out
}

func parsed(t *testing.T, name string) *ast.File {
	t.Helper()
	file, err := parser.ParseFile(token.NewFileSet(), name, nil, 0)
	if err != nil {
		t.Fatal(err)
	}
	return file
}
