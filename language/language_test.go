// Package language holds the program's files to the rules of the language that it is written in.
package language

import (
	"bytes"
	"crypto/sha256"
	"encoding/hex"
	"go/ast"
	"go/format"
	"go/parser"
	"go/token"
	"os"
	"path/filepath"
	"slices"
	"strconv"
	"strings"
	"testing"
)

const (
	apiDigest = "e83467ca87cf7eff4aaead8a81093566d0dbb0440e2176e0494c9134b73da93d"
	longest   = 60 // lines of a function
)

// layers are the packages, each above those ahead of it.
var layers = []string{
	"api", "digest", "codec", "recursion", "verify", "frontier", "extract", "tile", "shape", "device", "store",
	"single", "batch", "chain", "span", "cache", "plan", "message", "server", "client", "winternitz", "signer",
	"note", "witness", "trie", "monitor", "world",
}

// below are the numbers of the layers that each stands on, by the document's table; world stands on all.
var below = map[string][]int{
	"recursion": {1}, "verify": {1}, "frontier": {1}, "extract": {1, 3, 4}, "tile": {1}, "shape": {1}, "store": {1, 2, 7, 9},
	"single": {1, 7, 8}, "batch": {1, 7, 8}, "chain": {1, 4, 7, 8, 11}, "span": {1, 5, 7, 8, 10},
	"plan": {2, 4, 7, 11, 12, 13, 15}, "message": {2}, "server": {7, 10, 11, 12, 13, 14, 15, 16, 17},
	"client": {1, 4, 12, 13, 14, 17}, "winternitz": {1}, "signer": {1, 2, 4, 5, 9, 20}, "note": {1, 21},
	"witness": {1, 2, 4, 21, 22}, "trie": {1}, "monitor": {1, 4, 5, 22},
}

func standsOn(layer, other string) bool {
	n := slices.Index(layers, other)
	switch {
	case n < 0 || layer == "api":
		return false
	case n == 0:
		return true
	case layer == "world":
		return other != "world"
	}
	return slices.Contains(below[layer], n)
}

var library = []string{
	"bytes", "cmp", "container/heap", "errors", "iter", "maps", "math", "math/big", "math/bits", "slices", "sort",
	"strconv", "strings", "sync", "sync/atomic", "unicode", "unicode/utf8",
}

var locks = []string{"Mutex", "RWMutex", "WaitGroup", "Once"}

// source is a file of the program, not of its tests.
type source struct {
	name, layer string
	text        []byte
	set         *token.FileSet
	file        *ast.File
}

func sources(t *testing.T) []source {
	t.Helper()
	var all []source
	for _, layer := range layers {
		names, err := filepath.Glob(filepath.Join("..", layer, "*"))
		if err != nil || len(names) == 0 {
			t.Fatalf("%s: no files, %v", layer, err)
		}
		for _, name := range names {
			if strings.HasSuffix(name, "_test.go") {
				continue
			}
			if !strings.HasSuffix(name, ".go") {
				t.Errorf("%s: not a Go file", name)
				continue
			}
			text, err := os.ReadFile(name)
			if err != nil {
				t.Fatal(err)
			}
			set := token.NewFileSet()
			file, err := parser.ParseFile(set, name, text, parser.ParseComments)
			if err != nil {
				t.Fatal(err)
			}
			all = append(all, source{name, layer, text, set, file})
		}
	}
	return all
}

func TestApiStays(t *testing.T) {
	names, err := filepath.Glob("../api/*")
	if err != nil || !slices.Equal(names, []string{"../api/api.go"}) {
		t.Errorf("beside the given file: %q, %v", names, err)
	}
	text, err := os.ReadFile("../api/api.go")
	if sum := sha256.Sum256(text); err != nil || hex.EncodeToString(sum[:]) != apiDigest {
		t.Errorf("package api is not as it was given, %v", err)
	}
}

func TestImports(t *testing.T) {
	for _, s := range sources(t) {
		for _, i := range s.file.Imports {
			path, _ := strconv.Unquote(i.Path.Value)
			if own, ok := strings.CutPrefix(path, "scrivener/"); ok {
				if !standsOn(s.layer, own) {
					t.Errorf("%s: does not stand on %s", s.name, own)
				}
			} else if !slices.Contains(library, path) {
				t.Errorf("%s: imports %s", s.name, path)
			}
		}
	}
}

func TestLayout(t *testing.T) {
	for _, s := range sources(t) {
		if b, err := format.Source(s.text); err != nil || !bytes.Equal(b, s.text) {
			t.Errorf("%s: not in gofmt's layout", s.name)
		}
		for _, group := range s.file.Comments {
			for _, c := range group.List {
				if strings.HasPrefix(c.Text, "//go:") || strings.HasPrefix(c.Text, "// +build") {
					t.Errorf("%s: %s", s.name, c.Text)
				}
			}
		}
		for _, d := range s.file.Decls {
			if f, ok := d.(*ast.FuncDecl); ok {
				if n := s.set.Position(f.End()).Line - s.set.Position(f.Pos()).Line + 1; n > longest {
					t.Errorf("%s: %s has %d lines", s.name, f.Name.Name, n)
				}
			}
		}
	}
}

func TestLocks(t *testing.T) {
	for _, s := range sources(t) {
		ast.Inspect(s.file, func(n ast.Node) bool {
			if sel, ok := n.(*ast.SelectorExpr); ok {
				if x, ok := sel.X.(*ast.Ident); ok && x.Name == "sync" && !slices.Contains(locks, sel.Sel.Name) {
					t.Errorf("%s: sync.%s", s.name, sel.Sel.Name)
				}
			}
			return true
		})
	}
}

// At package level a variable is a table that is written out, or an error of one text.
func TestVariables(t *testing.T) {
	for _, s := range sources(t) {
		for _, d := range s.file.Decls {
			g, ok := d.(*ast.GenDecl)
			if !ok || g.Tok != token.VAR {
				continue
			}
			for _, spec := range g.Specs {
				v := spec.(*ast.ValueSpec)
				if len(v.Values) != len(v.Names) || slices.ContainsFunc(v.Values, func(e ast.Expr) bool { return !table(e) && !oneText(e) }) {
					t.Errorf("%s: the variable %s", s.name, v.Names[0].Name)
				}
			}
		}
	}
}

// table tells whether an array, slice or struct is written out.
func table(e ast.Expr) bool {
	l, ok := e.(*ast.CompositeLit)
	if !ok {
		return false
	}
	_, isMap := l.Type.(*ast.MapType)
	return !isMap
}

// oneText tells whether it is an error made of one text.
func oneText(e ast.Expr) bool {
	c, ok := e.(*ast.CallExpr)
	if !ok || len(c.Args) != 1 {
		return false
	}
	f, ok := c.Fun.(*ast.SelectorExpr)
	if !ok || f.Sel.Name != "New" {
		return false
	}
	x, ok := f.X.(*ast.Ident)
	l, isLit := c.Args[0].(*ast.BasicLit)
	return ok && x.Name == "errors" && isLit && l.Kind == token.STRING
}
