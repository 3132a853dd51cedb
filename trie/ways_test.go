package trie

import (
	"go/ast"
	"go/parser"
	"go/token"
	"go/types"
	"testing"
)

// Of DOC.md's Ways, layer 9: branches stand in maps, which are ranged over, and out of which they are deleted (delete).

func TestBranchesStandInMaps(t *testing.T) {
	file, err := parser.ParseFile(token.NewFileSet(), "trie.go", nil, 0)
	if err != nil {
		t.Fatal(err)
	}
	field := mapOfBranches(file)
	if field == "" {
		t.Fatal("a branch has no map of branches")
	}
	ranged, deleted := 0, 0
	ast.Inspect(file, func(n ast.Node) bool {
		switch n := n.(type) {
		case *ast.RangeStmt:
			if isField(n.X, field) && n.Value != nil {
				ranged++
			}
		case *ast.CallExpr:
			if types.ExprString(n.Fun) == "delete" && isField(n.Args[0], field) {
				deleted++
			}
		}
		return true
	})
	if ranged == 0 || deleted == 0 {
		t.Errorf("branches are ranged over %d times, and deleted %d times", ranged, deleted)
	}
}

// Of these ways it must be that branches come and go: keepsNoMore counts them behind each row of calls too.
func TestBranchesComeAndGo(t *testing.T) {
	b := with(t, Entry{1, "a/b/c", 0}, Entry{2, "a/b", 0}, Entry{2, "a/+/#", 0})
	for _, c := range []struct {
		do   func()
		want int
	}{
		{func() {}, 5},
		{func() { b.remove(1, "a/b/c") }, 4},
		{func() { b.add(Entry{2, "a/b/+/+", 0}) }, 6},
		{func() { b.remove(2, "a/b") }, 6},
		{func() { b.drop(1) }, 6},
		{func() { b.drop(2) }, 0},
	} {
		c.do()
		if got := branches(&b.x.root); got != c.want {
			t.Errorf("%d branches, not %d", got, c.want)
		}
		b.keepsNoMore()
	}
}

// mapOfBranches is the field of a branch in which others stand.
func mapOfBranches(file *ast.File) string {
	name := ""
	ast.Inspect(file, func(n ast.Node) bool {
		spec, ok := n.(*ast.TypeSpec)
		if !ok || spec.Name.Name != "branch" {
			return true
		}
		for _, f := range spec.Type.(*ast.StructType).Fields.List {
			if types.ExprString(f.Type) == "map[string]*branch" {
				name = f.Names[0].Name
			}
		}
		return false
	})
	return name
}

func isField(x ast.Expr, field string) bool {
	s, ok := x.(*ast.SelectorExpr)
	return ok && s.Sel.Name == field
}
