package packet

import (
	"errors"
	"go/ast"
	"go/parser"
	"go/token"
	"path/filepath"
	"slices"
	"strings"
	"testing"

	"aqueduct/api"
)

// Of DOC.md's Ways, layer 5: kinds are numbered by iota; packets that end alike fall through; what can't be read leaves by panic, is recovered in a deferred function literal, and told apart by a type assertion.

func TestKindsAreNumberedInOrder(t *testing.T) {
	const first, last = Connect, Auth // does not compile unless they are constants
	for i, k := range []Kind{first, Connack, Publish, Puback, Pubrec, Pubrel, Pubcomp, Subscribe, Suback, Unsubscribe, Unsuback, Pingreq, Pingresp, Disconnect, last} {
		if int(k) != i+1 {
			t.Errorf("the kind at %d is %d", i+1, k)
		}
	}
	group := find(parsed(t), func(g *ast.GenDecl) bool { return g.Tok == token.CONST && uses(g, "Connect") && uses(g, "Auth") })
	if group == nil || !uses(group, "iota") {
		t.Error("the kinds are not numbered by iota")
	}
}

func TestPacketsThatEndAlikeFallThrough(t *testing.T) {
	through := 0
	for _, f := range parsed(t) {
		ast.Inspect(f, func(n ast.Node) bool {
			c, ok := n.(*ast.CaseClause)
			if !ok || len(c.Body) == 0 {
				return true
			}
			last, ok := c.Body[len(c.Body)-1].(*ast.BranchStmt)
			if ok && last.Tok == token.FALLTHROUGH && slices.Equal(listed(c), []string{"Puback", "Pubrec", "Pubrel", "Pubcomp"}) {
				through++
			}
			return true
		})
	}
	if through != 2 {
		t.Errorf("packets that end alike fall through in %d places, not in Put and in Get", through)
	}
}

// listed are the names that a case lists.
func listed(c *ast.CaseClause) []string {
	var out []string
	for _, e := range c.List {
		if id, ok := e.(*ast.Ident); ok {
			out = append(out, id.Name)
		}
	}
	return out
}

func TestWhatCannotBeReadLeavesByPanic(t *testing.T) {
	for _, code := range []api.Code{api.Malformed, api.Protocol, api.Version, api.TooLarge} {
		func() {
			defer func() {
				if met := recover(); met != (unreadable{code}) {
					t.Errorf("what leaves with %d panics with %v", code, met)
				}
			}()
			leave(code)
			t.Errorf("what leaves with %d goes on", code)
		}()
	}
	// A part that isn't whole leaves at once, so that none behind it is read.
	r := reader{s: "\x00\x05abc\x00\x01", at: 0}
	if _, code := caught(func() Packet { return Packet{Topic: r.text(), ID: r.id()} }); code != api.Malformed || r.at != 0 {
		t.Errorf("the reader is at %d, and left with %d", r.at, code)
	}
}

func TestWhatLeftIsToldApart(t *testing.T) {
	for _, code := range []api.Code{api.Malformed, api.Protocol, api.Version, api.TooLarge} {
		p, got := caught(func() Packet {
			leave(code)
			return Packet{ID: 1}
		})
		if !same(p, Packet{}) || got != code {
			t.Errorf("caught = %s, %d, want none, %d", told(p), got, code)
		}
	}
	// P1: no call panics. What isn't a reader's own is told as a fault that nothing more is known of.
	var none []int
	for _, strange := range []func(){
		func() { panic("strange") },
		func() { panic(errors.New("strange")) },
		func() { panic(api.Malformed) },
		func() { panic(&unreadable{api.Malformed}) },
		func() { panic(nil) },
		func() { none[0]++ },
	} {
		p, got := caught(func() Packet {
			strange()
			return Packet{ID: 1}
		})
		if !same(p, Packet{}) || got != api.Unspecified {
			t.Errorf("caught = %s, %d, want none, Unspecified", told(p), got)
		}
	}
	if p, got := caught(func() Packet { return Packet{Kind: Puback, ID: 1} }); !same(p, Packet{Kind: Puback, ID: 1}) || got != api.OK {
		t.Errorf("caught = %s, %d", told(p), got)
	}
}

func TestRecoveredInADeferredFunctionLiteral(t *testing.T) {
	files := parsed(t)
	if find(files, func(c *ast.CallExpr) bool { return calls(c, "panic") && uses(c, "unreadable") }) == nil {
		t.Error("nothing leaves by panic")
	}
	in := find(files, func(d *ast.DeferStmt) bool {
		_, literal := d.Call.Fun.(*ast.FuncLit)
		return literal && uses(d, "recover")
	})
	if in == nil {
		t.Fatal("nothing is recovered in a deferred function literal")
	}
	if find([]ast.Node{in}, func(a *ast.TypeAssertExpr) bool { return a.Type != nil && uses(a.Type, "unreadable") }) == nil {
		t.Error("what is recovered is not told apart by a type assertion")
	}
}

// parsed are the files of the package, but for tests.
func parsed(t *testing.T) []ast.Node {
	t.Helper()
	names, err := filepath.Glob("*.go")
	if err != nil {
		t.Fatal(err)
	}
	var out []ast.Node
	for _, name := range names {
		if strings.HasSuffix(name, "_test.go") {
			continue
		}
		f, err := parser.ParseFile(token.NewFileSet(), name, nil, 0)
		if err != nil {
			t.Fatal(err)
		}
		out = append(out, f)
	}
	return out
}

// find tells the first piece of a form for which ok holds, nil if there is none.
func find[T ast.Node](in []ast.Node, ok func(T) bool) ast.Node {
	var found ast.Node
	for _, f := range in {
		ast.Inspect(f, func(n ast.Node) bool {
			if x, is := n.(T); is && found == nil && ok(x) {
				found = n
			}
			return true
		})
	}
	return found
}

// uses tells whether a name stands in a piece of the program.
func uses(in ast.Node, name string) bool {
	return find([]ast.Node{in}, func(id *ast.Ident) bool { return id.Name == name }) != nil
}

func calls(c *ast.CallExpr, name string) bool {
	id, ok := c.Fun.(*ast.Ident)
	return ok && id.Name == name
}
