package language

import (
	"go/ast"
	"go/token"
	"testing"
)

// ways are those of the document's section 'Ways', of the layers that are built.
var ways = map[string][]string{
	"digest":    {"constant table", "array", "variadic"},
	"codec":     {"errors.As", "generic function"},
	"recursion": {"three indexes", "closure that calls itself"},
	"verify":    {"loop left by a label", "call of copy"},
}

func TestWays(t *testing.T) {
	found := map[string]map[string]int{}
	for _, s := range sources(t) {
		if found[s.layer] == nil {
			found[s.layer] = map[string]int{}
		}
		ast.Inspect(s.file, func(n ast.Node) bool {
			found[s.layer][wayOf(n)]++
			return true
		})
		for _, d := range s.file.Decls {
			if g, ok := d.(*ast.GenDecl); ok && g.Tok == token.VAR {
				found[s.layer]["constant table"]++
			}
		}
	}
	for layer, words := range ways {
		for _, w := range words {
			if found[layer][w] == 0 {
				t.Errorf("%s: has no %s", layer, w)
			}
		}
	}
	if found["recursion"]["two indexes"] > 0 {
		t.Error("recursion: a part that is no slice of three indexes")
	}
}

// wayOf names the way that a piece of a program is, if it is one.
func wayOf(n ast.Node) string {
	switch x := n.(type) {
	case *ast.ArrayType:
		if x.Len != nil {
			return "array"
		}
	case *ast.Ellipsis:
		return "variadic"
	case *ast.SelectorExpr:
		if p, ok := x.X.(*ast.Ident); ok {
			return p.Name + "." + x.Sel.Name
		}
	case *ast.FuncDecl:
		if x.Type.TypeParams != nil {
			return "generic function"
		}
	case *ast.SliceExpr:
		if x.Slice3 {
			return "three indexes"
		}
		return "two indexes"
	case *ast.AssignStmt:
		if callsItself(x) {
			return "closure that calls itself"
		}
	case *ast.BranchStmt:
		if x.Tok == token.BREAK && x.Label != nil {
			return "loop left by a label"
		}
	case *ast.CallExpr:
		if f, ok := x.Fun.(*ast.Ident); ok {
			return "call of " + f.Name
		}
	}
	return ""
}

// callsItself tells whether a function literal is given a name by which it calls itself.
func callsItself(a *ast.AssignStmt) bool {
	name, ok := a.Lhs[0].(*ast.Ident)
	literal, isLiteral := a.Rhs[0].(*ast.FuncLit)
	if !ok || !isLiteral {
		return false
	}
	calls := false
	ast.Inspect(literal, func(n ast.Node) bool {
		if c, ok := n.(*ast.CallExpr); ok {
			f, ok := c.Fun.(*ast.Ident)
			calls = calls || ok && f.Name == name.Name
		}
		return true
	})
	return calls
}
