package topic

import (
	"go/ast"
	"go/parser"
	"go/token"
	"go/types"
	"strings"
	"testing"
)

// Of DOC.md's Ways, layer 7: a level with # falls through to what one with + must be; levels are held against one another by a closure.

func TestHashFallsThroughToPlus(t *testing.T) {
	functions := functionsOf(t)
	found := 0
	for name, f := range functions {
		ast.Inspect(f, func(n ast.Node) bool {
			s, ok := n.(*ast.SwitchStmt)
			if !ok {
				return true
			}
			for i, one := range s.Body.List {
				clause := one.(*ast.CaseClause)
				if !fallsThrough(clause) {
					continue
				}
				found++
				next := s.Body.List[i+1].(*ast.CaseClause)
				if !strings.Contains(listed(clause), "#") || !strings.Contains(listed(next), "+") {
					t.Errorf("in %s the case %s falls through to %s", name, listed(clause), listed(next))
				}
				if !uses(functions["CheckFilter"], name) {
					t.Errorf("CheckFilter does not look at levels by %s", name)
				}
			}
			return true
		})
	}
	if found != 1 {
		t.Errorf("%d cases fall through", found)
	}
}

func TestLevelsAreHeldAgainstOneAnotherByAClosure(t *testing.T) {
	match := functionsOf(t)["Match"]
	found := 0
	ast.Inspect(match, func(n ast.Node) bool {
		set, ok := n.(*ast.AssignStmt)
		if !ok || len(set.Rhs) != 1 {
			return true
		}
		literal, ok := set.Rhs[0].(*ast.FuncLit)
		if !ok {
			return true
		}
		found++
		if !holdsEqual(literal) {
			t.Error("the closure compares no levels")
		}
		if name := set.Lhs[0].(*ast.Ident).Name; !calls(match, name) {
			t.Errorf("Match does not call %s", name)
		}
		return true
	})
	if found != 1 {
		t.Errorf("Match has %d closures", found)
	}
}

// functionsOf are those of the package by their names.
func functionsOf(t *testing.T) map[string]*ast.FuncDecl {
	t.Helper()
	file, err := parser.ParseFile(token.NewFileSet(), "topic.go", nil, 0)
	if err != nil {
		t.Fatal(err)
	}
	out := map[string]*ast.FuncDecl{}
	for _, d := range file.Decls {
		if f, ok := d.(*ast.FuncDecl); ok {
			out[f.Name.Name] = f
		}
	}
	return out
}

func fallsThrough(clause *ast.CaseClause) bool {
	if len(clause.Body) == 0 {
		return false
	}
	b, ok := clause.Body[len(clause.Body)-1].(*ast.BranchStmt)
	return ok && b.Tok == token.FALLTHROUGH
}

// listed is what a case names, as it is written.
func listed(clause *ast.CaseClause) string {
	var all []string
	for _, e := range clause.List {
		all = append(all, types.ExprString(e))
	}
	return strings.Join(all, ", ")
}

// uses tells whether a name stands in a piece of the program.
func uses(in ast.Node, name string) bool {
	found := false
	ast.Inspect(in, func(n ast.Node) bool {
		id, ok := n.(*ast.Ident)
		found = found || ok && id.Name == name
		return true
	})
	return found
}

// calls tells whether a name is called in a piece of the program.
func calls(in ast.Node, name string) bool {
	found := false
	ast.Inspect(in, func(n ast.Node) bool {
		c, ok := n.(*ast.CallExpr)
		found = found || ok && uses(c.Fun, name)
		return true
	})
	return found
}

// holdsEqual tells whether two elements of lists are compared in a piece of the program.
func holdsEqual(in ast.Node) bool {
	found := false
	ast.Inspect(in, func(n ast.Node) bool {
		b, ok := n.(*ast.BinaryExpr)
		if !ok || b.Op != token.EQL {
			return true
		}
		_, left := b.X.(*ast.IndexExpr)
		_, right := b.Y.(*ast.IndexExpr)
		found = found || left && right
		return true
	})
	return found
}
