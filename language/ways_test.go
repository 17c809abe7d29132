package language

import (
	"go/ast"
	"go/token"
	"maps"
	"slices"
	"strconv"
	"strings"
	"testing"
)

// ways are those of the document's section 'Ways', of the layers that are built.
var ways = map[string][]string{
	"digest":     {"constant table", "array", "variadic"},
	"codec":      {"errors.As", "generic function"},
	"recursion":  {"three indexes", "closure that calls itself"},
	"verify":     {"loop left by a label", "call of copy"},
	"frontier":   {"embedded list", "promoted method"},
	"extract":    {"call of panic", "call of recover"},
	"tile":       {"map of structs", "range over bits"},
	"shape":      {"range over an iterator of its own"},
	"device":     {"call of delete", "deferred function"},
	"store":      {"deferred function", "call of copy"},
	"single":     {"method value"},
	"batch":      {"goto", "map"},
	"chain":      {"range over neighbours", "map of arrays"},
	"span":       {"interface in a field", "call through an interface"},
	"cache":      {"call of float32", "generic order in a field", "generic table in a field"},
	"plan":       {"type switch on its own", "call of float32"},
	"message":    {"method expression in a table", "fallthrough"},
	"server":     {"table with functions in fields", "call of a function in a field", "deferred function", "call of recover"},
	"client":     {"type assertion on its own", "constant by iota"},
	"winternitz": {"goroutine", "sync.WaitGroup"},
	"signer":     {"goroutine", "send", "range over a channel", "sync.Once"},
	"note":       {"range over runes", "error that wraps another", "errors.Is"},
	"witness":    {"mutex in a field", "mutex held"},
	"trie":       {"generic tree in a field", "generic node in a field", "generic interface with methods", "type switch on its own generics"},
}

func TestWays(t *testing.T) {
	found := map[string]map[string]int{}
	for _, s := range sources(t) {
		if found[s.layer] == nil {
			found[s.layer] = map[string]int{}
		}
		ast.Inspect(s.file, func(n ast.Node) bool {
			found[s.layer][wayOf(n)]++
			return true
		})
		for _, d := range s.file.Decls {
			g, ok := d.(*ast.GenDecl)
			switch {
			case ok && g.Tok == token.VAR:
				found[s.layer]["constant table"]++
			case ok && g.Tok == token.CONST && hasIota(g):
				found[s.layer]["constant by iota"]++
			}
		}
	}
	for layer, names := range embedded(t) {
		found[layer]["embedded list"] += len(names)
	}
	for layer, n := range promoted(t) {
		found[layer]["promoted method"] += n
	}
	for layer, n := range mapsOfStructs(t) {
		found[layer]["map of structs"] += n
	}
	for layer, n := range rangesOverOwn(t) {
		found[layer]["range over an iterator of its own"] += n
	}
	for layer, n := range rangesOverChannels(t) {
		found[layer]["range over a channel"] += n
	}
	for layer, n := range rangesOverRunes(t) {
		found[layer]["range over runes"] += n
	}
	for layer, n := range methodValues(t) {
		found[layer]["method value"] += n
	}
	for layer, names := range held(t) {
		found[layer]["interface in a field"] += len(names)
	}
	for layer, n := range calledThrough(t) {
		found[layer]["call through an interface"] += n
	}
	for layer, names := range genericFields(t) {
		for name, n := range names {
			found[layer]["generic "+name+" in a field"] += n
		}
	}
	for layer, n := range switchesOnOwn(t) {
		found[layer]["type switch on its own"] += n
	}
	for layer, n := range switchesOnGenerics(t) {
		found[layer]["type switch on its own generics"] += n
	}
	for layer, n := range genericInterfaces(t) {
		found[layer]["generic interface with methods"] += n
	}
	for layer, n := range assertionsOnOwn(t) {
		found[layer]["type assertion on its own"] += n
	}
	for layer, n := range tabledMethods(t) {
		found[layer]["method expression in a table"] += n
	}
	for layer, n := range tabledFields(t) {
		found[layer]["table with functions in fields"] += n
	}
	for layer, n := range calledFields(t) {
		found[layer]["call of a function in a field"] += n
	}
	for layer, fields := range mutexes(t) {
		found[layer]["mutex in a field"] += len(fields)
	}
	for layer, n := range holders(t) {
		found[layer]["mutex held"] += n
	}
	for layer, words := range ways {
		for _, w := range words {
			if found[layer][w] == 0 {
				t.Errorf("%s: has no %s", layer, w)
			}
		}
	}
	if found["recursion"]["two indexes"] > 0 {
		t.Error("recursion: a part that is no slice of three indexes")
	}
}

// mutexes are, of each layer, the fields that are mutexes, by their structs.
func mutexes(t *testing.T) map[string]map[string]string {
	fields := map[string]map[string]string{}
	for layer, declared := range declaredIn(t) {
		fields[layer] = map[string]string{}
		for outer, e := range declared {
			x, ok := e.(*ast.StructType)
			if !ok {
				continue
			}
			for _, f := range x.Fields.List {
				if wayOf(f.Type) == "sync.Mutex" && len(f.Names) == 1 {
					fields[layer][outer] = f.Names[0].Name
				}
			}
		}
	}
	return fields
}

// holders counts, of each layer, the exported methods of what has a mutex, which all must hold it to their end.
func holders(t *testing.T) map[string]int {
	fields, count := mutexes(t), map[string]int{}
	for _, s := range sources(t) {
		for _, d := range s.file.Decls {
			f, ok := d.(*ast.FuncDecl)
			if !ok || !f.Name.IsExported() || fields[s.layer][receiver(f)] == "" {
				continue
			}
			if !holds(f, fields[s.layer][receiver(f)]) {
				t.Errorf("%s: %s does not hold the mutex", s.layer, f.Name.Name)
			}
			count[s.layer]++
		}
	}
	return count
}

// holds tells whether a function takes the mutex of a field, and gives it back behind all that it does from there on.
func holds(f *ast.FuncDecl, field string) bool {
	of := func(e ast.Expr, method string) bool {
		c, ok := e.(*ast.CallExpr)
		if !ok {
			return false
		}
		m, ok := c.Fun.(*ast.SelectorExpr)
		return ok && m.Sel.Name == method && nameOf(m.X) == field
	}
	for i := range len(f.Body.List) - 1 {
		taken, ok := f.Body.List[i].(*ast.ExprStmt)
		given, also := f.Body.List[i+1].(*ast.DeferStmt)
		if ok && also && of(taken.X, "Lock") && of(given.Call, "Unlock") {
			return true
		}
	}
	return false
}

// wayOf names the way that a piece of a program is, if it is one.
func wayOf(n ast.Node) string {
	switch x := n.(type) {
	case *ast.ArrayType:
		if x.Len != nil {
			return "array"
		}
	case *ast.Ellipsis:
		return "variadic"
	case *ast.SelectorExpr:
		if p, ok := x.X.(*ast.Ident); ok {
			return p.Name + "." + x.Sel.Name
		}
	case *ast.FuncDecl:
		switch {
		case x.Type.TypeParams != nil:
			return "generic function"
		case x.Recv != nil && x.Name.Name == "Unwrap":
			return "error that wraps another"
		}
	case *ast.SliceExpr:
		if x.Slice3 {
			return "three indexes"
		}
		return "two indexes"
	case *ast.AssignStmt:
		if callsItself(x) {
			return "closure that calls itself"
		}
	case *ast.BranchStmt:
		switch {
		case x.Tok == token.BREAK && x.Label != nil:
			return "loop left by a label"
		case x.Tok == token.GOTO || x.Tok == token.FALLTHROUGH:
			return x.Tok.String()
		}
	case *ast.MapType:
		if key, ok := x.Key.(*ast.ArrayType); ok && key.Len != nil {
			return "map of arrays"
		}
		return "map"
	case *ast.CallExpr:
		if f, ok := x.Fun.(*ast.Ident); ok {
			return "call of " + f.Name
		}
	case *ast.DeferStmt:
		return "deferred function"
	case *ast.GoStmt:
		return "goroutine"
	case *ast.SendStmt:
		return "send"
	case *ast.RangeStmt:
		switch {
		case isBits(x.X) && x.Value == nil:
			return "range over bits"
		case isOneLess(x.X) && x.Value == nil:
			return "range over neighbours"
		}
	}
	return ""
}

// isOneLess tells whether it is the number of a list's pairs of neighbours: its length less 1.
func isOneLess(e ast.Expr) bool {
	b, ok := e.(*ast.BinaryExpr)
	if !ok || b.Op != token.SUB {
		return false
	}
	one, ok := b.Y.(*ast.BasicLit)
	return ok && one.Value == "1" && wayOf(b.X) == "call of len"
}

// isBits tells whether package bits is asked for a number.
func isBits(e ast.Expr) bool {
	c, ok := e.(*ast.CallExpr)
	if !ok {
		return false
	}
	f, ok := c.Fun.(*ast.SelectorExpr)
	if !ok {
		return false
	}
	p, ok := f.X.(*ast.Ident)
	return ok && p.Name == "bits"
}

// callsItself tells whether a function literal is given a name by which it calls itself.
func callsItself(a *ast.AssignStmt) bool {
	name, ok := a.Lhs[0].(*ast.Ident)
	literal, isLiteral := a.Rhs[0].(*ast.FuncLit)
	if !ok || !isLiteral {
		return false
	}
	calls := false
	ast.Inspect(literal, func(n ast.Node) bool {
		if c, ok := n.(*ast.CallExpr); ok {
			f, ok := c.Fun.(*ast.Ident)
			calls = calls || ok && f.Name == name.Name
		}
		return true
	})
	return calls
}

// typesOf are the types that a file declares, by their names.
func typesOf(f *ast.File) map[string]ast.Expr {
	types := map[string]ast.Expr{}
	for _, d := range f.Decls {
		if g, ok := d.(*ast.GenDecl); ok && g.Tok == token.TYPE {
			for _, spec := range g.Specs {
				x := spec.(*ast.TypeSpec)
				types[x.Name.Name] = x.Type
			}
		}
	}
	return types
}

// declaredIn are the types of each layer.
func declaredIn(t *testing.T) map[string]map[string]ast.Expr {
	types := map[string]map[string]ast.Expr{}
	for _, s := range sources(t) {
		if types[s.layer] == nil {
			types[s.layer] = map[string]ast.Expr{}
		}
		maps.Copy(types[s.layer], typesOf(s.file))
	}
	return types
}

// generics are, of each layer, the generic types that it declares.
func generics(t *testing.T) map[string]map[string]int {
	names := map[string]map[string]int{}
	for _, s := range sources(t) {
		if names[s.layer] == nil {
			names[s.layer] = map[string]int{}
		}
		ast.Inspect(s.file, func(n ast.Node) bool {
			if x, ok := n.(*ast.TypeSpec); ok && x.TypeParams != nil {
				names[s.layer][x.Name.Name]++
			}
			return true
		})
	}
	return names
}

// genericFields counts, of each layer, the fields that hold one of its generic types, by the type's name.
func genericFields(t *testing.T) map[string]map[string]int {
	names, count := generics(t), map[string]map[string]int{}
	for layer, declared := range declaredIn(t) {
		count[layer] = map[string]int{}
		for _, e := range declared {
			x, ok := e.(*ast.StructType)
			if !ok {
				continue
			}
			for _, f := range x.Fields.List {
				if name := instanceOf(f.Type); names[layer][name] > 0 {
					count[layer][name]++
				}
			}
		}
	}
	return count
}

// instanceOf is the name of the generic type of which a type is made, if it is.
func instanceOf(e ast.Expr) string {
	switch x := e.(type) {
	case *ast.IndexExpr:
		return nameOf(x.X)
	case *ast.IndexListExpr:
		return nameOf(x.X)
	}
	return ""
}

// switchesOnOwn counts, of each layer, the type switches that tell apart types which it declares, and no others.
func switchesOnOwn(t *testing.T) map[string]int {
	types := declaredIn(t)
	return switches(t, func(layer string, e ast.Expr) bool { return types[layer][nameOf(e)] != nil })
}

// switchesOnGenerics counts those that tell apart what is made of generic types which it declares, or points to such.
func switchesOnGenerics(t *testing.T) map[string]int {
	names := generics(t)
	return switches(t, func(layer string, e ast.Expr) bool {
		if p, ok := e.(*ast.StarExpr); ok {
			e = p.X
		}
		return names[layer][instanceOf(e)] > 0
	})
}

// switches counts, of each layer, the type switches that tell two types or more apart, each of which is own.
func switches(t *testing.T, isOwn func(layer string, e ast.Expr) bool) map[string]int {
	count := map[string]int{}
	for _, s := range sources(t) {
		ast.Inspect(s.file, func(n ast.Node) bool {
			x, ok := n.(*ast.TypeSwitchStmt)
			if !ok {
				return true
			}
			own, others := 0, 0
			for _, c := range x.Body.List {
				for _, e := range c.(*ast.CaseClause).List {
					if isOwn(s.layer, e) {
						own++
					} else {
						others++
					}
				}
			}
			if own > 1 && others == 0 {
				count[s.layer]++
			}
			return true
		})
	}
	return count
}

// genericInterfaces counts, of each layer, the generic types that it declares which are interfaces with methods.
func genericInterfaces(t *testing.T) map[string]int {
	types, count := declaredIn(t), map[string]int{}
	for layer, names := range generics(t) {
		for name := range names {
			if x, ok := types[layer][name].(*ast.InterfaceType); ok && slices.ContainsFunc(x.Methods.List, func(f *ast.Field) bool { return len(f.Names) > 0 }) {
				count[layer]++
			}
		}
	}
	return count
}

// assertionsOnOwn counts, of each layer, the assertions that something is of a type which it declares.
func assertionsOnOwn(t *testing.T) map[string]int {
	types, count := declaredIn(t), map[string]int{}
	for _, s := range sources(t) {
		ast.Inspect(s.file, func(n ast.Node) bool {
			if x, ok := n.(*ast.TypeAssertExpr); ok && x.Type != nil && types[s.layer][nameOf(x.Type)] != nil {
				count[s.layer]++
			}
			return true
		})
	}
	return count
}

// hasIota tells whether constants are counted.
func hasIota(g *ast.GenDecl) bool {
	has := false
	ast.Inspect(g, func(n ast.Node) bool {
		name, ok := n.(*ast.Ident)
		has = has || ok && name.Name == "iota"
		return true
	})
	return has
}

// mapsOfStructs counts, of each layer, the maps whose keys are structs that it declares.
func mapsOfStructs(t *testing.T) map[string]int {
	types, count := declaredIn(t), map[string]int{}
	for _, s := range sources(t) {
		ast.Inspect(s.file, func(n ast.Node) bool {
			if m, ok := n.(*ast.MapType); ok {
				if key, ok := m.Key.(*ast.Ident); ok {
					if _, ok := types[s.layer][key.Name].(*ast.StructType); ok {
						count[s.layer]++
					}
				}
			}
			return true
		})
	}
	return count
}

// iterators are, of each layer, its functions that answer an iterator.
func iterators(t *testing.T) map[string]map[string]int {
	names := map[string]map[string]int{}
	for _, s := range sources(t) {
		if names[s.layer] == nil {
			names[s.layer] = map[string]int{}
		}
		for _, d := range s.file.Decls {
			f, ok := d.(*ast.FuncDecl)
			if !ok || f.Recv != nil || f.Type.Results == nil || len(f.Type.Results.List) != 1 {
				continue
			}
			if x, ok := f.Type.Results.List[0].Type.(*ast.IndexExpr); ok && wayOf(x.X) == "iter.Seq" {
				names[s.layer][f.Name.Name]++
			}
		}
	}
	return names
}

// rangesOverOwn counts, of each layer, the ranges over what its own iterators tell.
func rangesOverOwn(t *testing.T) map[string]int {
	names, count := iterators(t), map[string]int{}
	for _, s := range sources(t) {
		ast.Inspect(s.file, func(n ast.Node) bool {
			if r, ok := n.(*ast.RangeStmt); ok {
				if c, ok := r.X.(*ast.CallExpr); ok {
					if f, ok := c.Fun.(*ast.Ident); ok {
						count[s.layer] += names[s.layer][f.Name]
					}
				}
			}
			return true
		})
	}
	return count
}

// rangesOverChannels counts, of each layer, the ranges over a channel that a function is handed.
func rangesOverChannels(t *testing.T) map[string]int {
	count := map[string]int{}
	for _, s := range sources(t) {
		for _, d := range s.file.Decls {
			f, ok := d.(*ast.FuncDecl)
			if !ok {
				continue
			}
			channels := channelsOf(f)
			ast.Inspect(f, func(n ast.Node) bool {
				if r, ok := n.(*ast.RangeStmt); ok {
					count[s.layer] += channels[nameOf(r.X)]
				}
				return true
			})
		}
	}
	return count
}

// rangesOverRunes counts, of each layer, the ranges over the runes of a text that a function is handed.
func rangesOverRunes(t *testing.T) map[string]int {
	count := map[string]int{}
	for _, s := range sources(t) {
		for _, d := range s.file.Decls {
			f, ok := d.(*ast.FuncDecl)
			if !ok {
				continue
			}
			texts := textsOf(f)
			ast.Inspect(f, func(n ast.Node) bool {
				if r, ok := n.(*ast.RangeStmt); ok && r.Value != nil {
					count[s.layer] += texts[nameOf(r.X)]
				}
				return true
			})
		}
	}
	return count
}

// textsOf are the texts that a function is handed, by their names.
func textsOf(f *ast.FuncDecl) map[string]int {
	names := map[string]int{}
	for _, p := range f.Type.Params.List {
		if nameOf(p.Type) != "string" {
			continue
		}
		for _, name := range p.Names {
			names[name.Name]++
		}
	}
	return names
}

// channelsOf are the channels that a function is handed, by their names.
func channelsOf(f *ast.FuncDecl) map[string]int {
	names := map[string]int{}
	for _, p := range f.Type.Params.List {
		if _, ok := p.Type.(*ast.ChanType); !ok {
			continue
		}
		for _, name := range p.Names {
			names[name.Name]++
		}
	}
	return names
}

// methodNames are the exported methods of all layers.
func methodNames(t *testing.T) map[string]int {
	names := map[string]int{}
	for _, s := range sources(t) {
		for _, d := range s.file.Decls {
			if f, ok := d.(*ast.FuncDecl); ok && f.Recv != nil && f.Name.IsExported() {
				names[f.Name.Name]++
			}
		}
	}
	return names
}

// methodValues counts, of each layer, the methods of a thing that are named, but not called on the spot.
func methodValues(t *testing.T) map[string]int {
	names, count := methodNames(t), map[string]int{}
	for _, s := range sources(t) {
		called := map[ast.Expr]int{}
		ast.Inspect(s.file, func(n ast.Node) bool {
			switch x := n.(type) {
			case *ast.CallExpr:
				called[x.Fun]++
			case *ast.SelectorExpr:
				if called[x] == 0 && names[x.Sel.Name] > 0 && !isPackage(s.file, x.X) {
					count[s.layer]++
				}
			}
			return true
		})
	}
	return count
}

// tabledMethods counts, of each layer, the methods of its types that stand in a literal as functions.
func tabledMethods(t *testing.T) map[string]int {
	types, count := declaredIn(t), map[string]int{}
	for _, s := range sources(t) {
		ast.Inspect(s.file, func(n ast.Node) bool {
			x, ok := n.(*ast.CompositeLit)
			if !ok {
				return true
			}
			for _, e := range x.Elts {
				if m, ok := e.(*ast.SelectorExpr); ok && types[s.layer][ofType(m.X)] != nil {
					count[s.layer]++
				}
			}
			return true
		})
	}
	return count
}

// functionFields are, of each layer, the fields that hold a function, with the name of their struct.
func functionFields(t *testing.T) map[string]map[string]string {
	fields := map[string]map[string]string{}
	for layer, declared := range declaredIn(t) {
		fields[layer] = map[string]string{}
		for outer, e := range declared {
			x, ok := e.(*ast.StructType)
			if !ok {
				continue
			}
			for _, f := range x.Fields.List {
				for _, name := range f.Names {
					if _, ok := f.Type.(*ast.FuncType); ok {
						fields[layer][name.Name] = outer
					}
				}
			}
		}
	}
	return fields
}

// tabledFields counts, of each layer, the lists that are written out of structs which hold functions.
func tabledFields(t *testing.T) map[string]int {
	fields, count := functionFields(t), map[string]int{}
	for _, s := range sources(t) {
		ast.Inspect(s.file, func(n ast.Node) bool {
			x, ok := n.(*ast.CompositeLit)
			if !ok {
				return true
			}
			if list, ok := x.Type.(*ast.ArrayType); ok && slices.Contains(slices.Collect(maps.Values(fields[s.layer])), nameOf(list.Elt)) {
				count[s.layer]++
			}
			return true
		})
	}
	return count
}

// calledFields counts, of each layer, the calls of what a field holds.
func calledFields(t *testing.T) map[string]int {
	fields, count := functionFields(t), map[string]int{}
	for _, s := range sources(t) {
		ast.Inspect(s.file, func(n ast.Node) bool {
			if c, ok := n.(*ast.CallExpr); ok {
				if f, ok := c.Fun.(*ast.SelectorExpr); ok && fields[s.layer][f.Sel.Name] != "" && !isPackage(s.file, f.X) {
					count[s.layer]++
				}
			}
			return true
		})
	}
	return count
}

// ofType is the name of a type, or of what it points to, as a method expression has it ahead of the method.
func ofType(e ast.Expr) string {
	if p, ok := e.(*ast.ParenExpr); ok {
		e = p.X
	}
	if p, ok := e.(*ast.StarExpr); ok {
		e = p.X
	}
	name, _ := e.(*ast.Ident)
	if name == nil {
		return ""
	}
	return name.Name
}

// isPackage tells whether it is the name of what a file imports.
func isPackage(f *ast.File, e ast.Expr) bool {
	name, ok := e.(*ast.Ident)
	return ok && slices.ContainsFunc(f.Imports, func(i *ast.ImportSpec) bool {
		return strings.HasSuffix(i.Path.Value, "/"+name.Name+"\"") || i.Path.Value == strconv.Quote(name.Name)
	})
}

// held are, of each layer, the fields that hold an interface which it declares, with the interface's name.
func held(t *testing.T) map[string]map[string]string {
	fields := map[string]map[string]string{}
	for layer, declared := range declaredIn(t) {
		fields[layer] = map[string]string{}
		for _, e := range declared {
			x, ok := e.(*ast.StructType)
			if !ok {
				continue
			}
			for _, f := range x.Fields.List {
				for _, name := range f.Names {
					if kind, ok := f.Type.(*ast.Ident); ok && isInterface(declared[kind.Name]) {
						fields[layer][name.Name] = kind.Name
					}
				}
			}
		}
	}
	return fields
}

func isInterface(e ast.Expr) bool {
	_, ok := e.(*ast.InterfaceType)
	return ok
}

// calledThrough counts, of each layer, the calls of an interface's method on a field that holds it, or on what a function answers as one.
func calledThrough(t *testing.T) map[string]int {
	types, fields, count := declaredIn(t), held(t), map[string]int{}
	answers := answered(t)
	for _, s := range sources(t) {
		ast.Inspect(s.file, func(n ast.Node) bool {
			c, ok := n.(*ast.CallExpr)
			if !ok {
				return true
			}
			method, ok := c.Fun.(*ast.SelectorExpr)
			if !ok {
				return true
			}
			kind := ""
			switch x := method.X.(type) {
			case *ast.SelectorExpr:
				kind = fields[s.layer][x.Sel.Name]
			case *ast.CallExpr:
				kind = answers[s.layer][nameOf(x.Fun)]
			}
			if i, ok := types[s.layer][kind].(*ast.InterfaceType); ok && slices.ContainsFunc(i.Methods.List, func(f *ast.Field) bool {
				return len(f.Names) == 1 && f.Names[0].Name == method.Sel.Name
			}) {
				count[s.layer]++
			}
			return true
		})
	}
	return count
}

// answered are, of each layer, its functions that answer one thing, with the name of the thing's type.
func answered(t *testing.T) map[string]map[string]string {
	kinds := map[string]map[string]string{}
	for _, s := range sources(t) {
		if kinds[s.layer] == nil {
			kinds[s.layer] = map[string]string{}
		}
		for _, d := range s.file.Decls {
			if f, ok := d.(*ast.FuncDecl); ok && f.Type.Results != nil && len(f.Type.Results.List) == 1 {
				kinds[s.layer][f.Name.Name] = nameOf(f.Type.Results.List[0].Type)
			}
		}
	}
	return kinds
}

// nameOf is the last name of what is named, if it is.
func nameOf(e ast.Expr) string {
	switch x := e.(type) {
	case *ast.Ident:
		return x.Name
	case *ast.SelectorExpr:
		return x.Sel.Name
	}
	return ""
}

// embedded are, of each layer, its lists that a struct of it embeds, with the struct's name.
func embedded(t *testing.T) map[string]map[string]string {
	lists := map[string]map[string]string{}
	for layer, declared := range declaredIn(t) {
		lists[layer] = map[string]string{}
		for outer, e := range declared {
			x, ok := e.(*ast.StructType)
			if !ok {
				continue
			}
			for _, f := range x.Fields.List {
				name, ok := f.Type.(*ast.Ident)
				if !ok || len(f.Names) != 0 {
					continue
				}
				if list, ok := declared[name.Name].(*ast.ArrayType); ok && list.Len == nil {
					lists[layer][name.Name] = outer
				}
			}
		}
	}
	return lists
}

// promoted counts, of each layer, the methods of embedded lists that those of the struct around them name.
func promoted(t *testing.T) map[string]int {
	lists, files := embedded(t), sources(t)
	methods := map[string]map[string]string{}
	for _, s := range files {
		if methods[s.layer] == nil {
			methods[s.layer] = map[string]string{}
		}
		for _, d := range s.file.Decls {
			if f, ok := d.(*ast.FuncDecl); ok && lists[s.layer][receiver(f)] != "" {
				methods[s.layer][f.Name.Name] = lists[s.layer][receiver(f)]
			}
		}
	}
	count := map[string]int{}
	for _, s := range files {
		for _, d := range s.file.Decls {
			f, ok := d.(*ast.FuncDecl)
			if !ok || receiver(f) == "" {
				continue
			}
			ast.Inspect(f, func(n ast.Node) bool {
				if x, ok := n.(*ast.SelectorExpr); ok && methods[s.layer][x.Sel.Name] == receiver(f) {
					count[s.layer]++
				}
				return true
			})
		}
	}
	return count
}

// receiver is the name of the type whose method a function is.
func receiver(f *ast.FuncDecl) string {
	if f.Recv == nil {
		return ""
	}
	return ofType(f.Recv.List[0].Type)
}
