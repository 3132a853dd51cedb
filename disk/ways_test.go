package disk

import (
	"go/ast"
	"go/parser"
	"go/token"
	"go/types"
	"slices"
	"testing"
)

// Of DOC.md's Ways, layer 11: files stand in an array; what a change does is a closure; what is kept comes in through a variadic function.

func TestFilesStandInAnArray(t *testing.T) {
	d := New(1)
	var _ [Files]content = d.files // does not compile unless it is an array
	field := fieldsOf(parsed(t), "Disk")["files"]
	if a, ok := field.(*ast.ArrayType); !ok || a.Len == nil || types.ExprString(a.Len) != "Files" {
		t.Errorf("files stand in %v", field)
	}
}

// They carry the weight: all that can be a change, and nothing else, hands over a closure.
func TestWhatAChangeDoesIsAClosure(t *testing.T) {
	functions := functionsOf(parsed(t))
	if got := closures(functions["change"].Type); !slices.Equal(got, []string{"does", "atLoss"}) {
		t.Fatalf("change takes the closures %q", got)
	}
	for _, name := range []string{"Append", "Sync", "Clear"} {
		if !handsAClosure(functions[name]) {
			t.Errorf("%s does not hand change a closure", name)
		}
	}
	for name, f := range functions {
		if callsChange(f) != slices.Contains([]string{"Append", "Sync", "Clear"}, name) {
			t.Errorf("%s: is it a change?", name)
		}
	}
}

// What a closure does is done as change decides, and once.
func TestChangeDoesWhatItIsHanded(t *testing.T) {
	for name, c := range map[string]struct {
		ask        func(d *Disk)
		does, loss int
	}{
		"none":  {func(d *Disk) {}, 1, 0},
		"Break": {func(d *Disk) { d.Break(1) }, 0, 0},
		"Cut":   {func(d *Disk) { d.Cut(1) }, 0, 1},
		"both":  {func(d *Disk) { d.Break(1); d.Cut(1) }, 0, 1},
	} {
		d, does, loss := New(1), 0, 0
		c.ask(d)
		d.change(func() { does++ }, func() { loss++ })
		if does != c.does || loss != c.loss {
			t.Errorf("with %s asked for, what a change does is done %d times, and ahead of a loss %d times", name, does, loss)
		}
	}
}

func TestWhatIsKeptComesInThroughAVariadicFunction(t *testing.T) {
	functions := functionsOf(parsed(t))
	for _, name := range []string{"Cut", "Crash", "lose"} {
		f := functions[name]
		params := f.Type.Params.List
		last := params[len(params)-1]
		if rest, ok := last.Type.(*ast.Ellipsis); !ok || types.ExprString(rest.Elt) != "int" || last.Names[0].Name != "keep" || uses(f.Body, "keep") == 0 {
			t.Errorf("%s takes %s", name, types.ExprString(f.Type))
		}
	}
	for _, name := range []string{"Crash", "change"} {
		if !handsOn(functions[name]) {
			t.Errorf("%s does not hand on to the loss of power what is kept", name)
		}
	}
}

func parsed(t *testing.T) *ast.File {
	t.Helper()
	file, err := parser.ParseFile(token.NewFileSet(), "disk.go", nil, 0)
	if err != nil {
		t.Fatal(err)
	}
	return file
}

// functionsOf are those of the disk, and those of none, by their names.
func functionsOf(file *ast.File) map[string]*ast.FuncDecl {
	out := map[string]*ast.FuncDecl{}
	for _, d := range file.Decls {
		f, ok := d.(*ast.FuncDecl)
		if ok && (f.Recv == nil || types.ExprString(f.Recv.List[0].Type) == "*Disk") {
			out[f.Name.Name] = f
		}
	}
	return out
}

// fieldsOf are the types of a struct's fields by their names.
func fieldsOf(file *ast.File, name string) map[string]ast.Expr {
	out := map[string]ast.Expr{}
	ast.Inspect(file, func(n ast.Node) bool {
		spec, ok := n.(*ast.TypeSpec)
		if !ok || spec.Name.Name != name {
			return true
		}
		for _, f := range spec.Type.(*ast.StructType).Fields.List {
			for _, id := range f.Names {
				out[id.Name] = f.Type
			}
		}
		return false
	})
	return out
}

// closures are the names of the parameters that are functions.
func closures(f *ast.FuncType) []string {
	var out []string
	for _, p := range f.Params.List {
		if _, ok := p.Type.(*ast.FuncType); !ok {
			continue
		}
		for _, id := range p.Names {
			out = append(out, id.Name)
		}
	}
	return out
}

// handsAClosure tells whether a function calls change with a function literal, or with a name that stands for one.
func handsAClosure(f *ast.FuncDecl) bool {
	literals := map[string]bool{}
	ast.Inspect(f, func(n ast.Node) bool {
		if a, ok := n.(*ast.AssignStmt); ok && len(a.Rhs) == 1 {
			_, literal := a.Rhs[0].(*ast.FuncLit)
			literals[types.ExprString(a.Lhs[0])] = literal
		}
		return true
	})
	hands := false
	ast.Inspect(f, func(n ast.Node) bool {
		if c, ok := n.(*ast.CallExpr); ok && isCallOf(c, "change") {
			_, literal := c.Args[0].(*ast.FuncLit)
			hands = literal || literals[types.ExprString(c.Args[0])]
		}
		return true
	})
	return hands
}

func callsChange(f *ast.FuncDecl) bool {
	calls := false
	ast.Inspect(f, func(n ast.Node) bool {
		c, ok := n.(*ast.CallExpr)
		calls = calls || ok && isCallOf(c, "change")
		return true
	})
	return calls
}

// handsOn tells whether a function calls the disk's lose with the numbers that it has.
func handsOn(f *ast.FuncDecl) bool {
	hands := false
	ast.Inspect(f, func(n ast.Node) bool {
		c, ok := n.(*ast.CallExpr)
		hands = hands || ok && isCallOf(c, "lose") && c.Ellipsis.IsValid() && uses(c, "keep") > 0
		return true
	})
	return hands
}

func isCallOf(c *ast.CallExpr, name string) bool {
	s, ok := c.Fun.(*ast.SelectorExpr)
	return ok && s.Sel.Name == name
}

// uses counts where a name stands.
func uses(in ast.Node, name string) int {
	n := 0
	ast.Inspect(in, func(x ast.Node) bool {
		if id, ok := x.(*ast.Ident); ok && id.Name == name {
			n++
		}
		return true
	})
	return n
}
