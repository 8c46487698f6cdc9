package rules

import (
	"go/ast"
	"go/token"
	"go/types"
	"testing"
)

// landed are the ways of the layers that are built: a layer's row of the document's section 'Ways'.
func landed() map[string][]string {
	return map[string][]string{
		"num":    {"variadic", "closure"},
		"float":  {"variadic", "float", "closure"},
		"bitmap": {"variadic", "closure"},
		"arena":  {"variadic", "panic", "recover", "defer", "type-switch", "copy", "clear"},
		"index":  {"variadic", "panic", "recover", "defer", "type-switch", "closure"},
		"runs":   {"variadic", "closure"},
		"heap":   {"variadic", "map", "closure", "embedding", "promoted"},
		"chain":  {"variadic", "map", "closure"},
		"pool":   {"variadic", "embedding", "promoted", "map", "closure"},
		"large":  {"variadic", "closure", "struct-compared"},
		"cache":  {"variadic", "array", "closure"},
		"stacks": {"embedding", "promoted", "variadic", "closure"},
		"fns":    {"variadic", "embedding", "promoted", "closure"},
		"frame":  {"variadic"},
		"walk":   {"variadic", "embedding", "promoted", "panic", "recover", "defer", "type-switch", "closure"},
		"slots":  {"variadic", "closure", "struct-compared"},
		"move":   {"variadic", "embedding", "promoted", "panic", "recover", "defer", "type-switch", "closure"},
		"policy": {"variadic", "closure"},
		"model":  {"embedding", "promoted", "panic", "recover", "defer", "type-switch", "closure", "variadic", "struct-compared", "float"},
		"gor":    {"embedding", "promoted", "panic", "recover", "defer", "type-switch", "variadic", "float"},
	}
}

// finder tells by a part of a file whether it is of a way.
type finder func(n ast.Node) bool

// finders has a finder of each way that a landed layer leans on; some ask for types of what stands in the package's files.
func finders(info *types.Info) map[string]finder {
	return map[string]finder{
		"variadic":        isVariadic,
		"closure":         handsOn(info),
		"float":           isFloat,
		"panic":           isThrown,
		"recover":         isCaught,
		"defer":           isDeferred,
		"type-switch":     isTypeSwitch,
		"copy":            calls("copy"),
		"clear":           calls("clear"),
		"map":             isMap,
		"embedding":       embeds(info),
		"promoted":        promotes(info),
		"struct-compared": comparesStructs(info),
		"array":           isArray,
	}
}

// calls is a finder of the calls of a function that the language has.
func calls(name string) finder {
	return func(n ast.Node) bool {
		c, is := n.(*ast.CallExpr)
		if !is {
			return false
		}
		f, is := c.Fun.(*ast.Ident)
		return is && f.Name == name
	}
}

// isThrown tells whether it is a panic with more than a name: what was caught and goes on has one.
func isThrown(n ast.Node) bool {
	if !calls("panic")(n) {
		return false
	}
	for _, thrown := range n.(*ast.CallExpr).Args {
		if _, is := thrown.(*ast.Ident); is {
			return false
		}
	}
	return true
}

// isCaught tells whether it is a function literal, deferred, that asks what was thrown: elsewhere recover catches nothing.
func isCaught(n ast.Node) bool {
	d, is := n.(*ast.DeferStmt)
	if !is {
		return false
	}
	f, is := d.Call.Fun.(*ast.FuncLit)
	return is && within(f.Body, calls("recover"))
}

// isDeferred tells whether it is a call that is put off.
func isDeferred(n ast.Node) bool {
	_, is := n.(*ast.DeferStmt)
	return is
}

// isTypeSwitch tells whether it is a choice by a type.
func isTypeSwitch(n ast.Node) bool {
	_, is := n.(*ast.TypeSwitchStmt)
	return is
}

// isVariadic tells whether it is an exported function of as many as one likes.
func isVariadic(n ast.Node) bool {
	f, is := n.(*ast.FuncDecl)
	if !is || !f.Name.IsExported() {
		return false
	}
	for _, p := range f.Type.Params.List {
		if _, is := p.Type.(*ast.Ellipsis); is {
			return true
		}
	}
	return false
}

// handsOn is a finder of calls that a function literal is handed on to, or a function that another call answered.
func handsOn(info *types.Info) finder {
	return func(n ast.Node) bool {
		c, is := n.(*ast.CallExpr)
		if !is {
			return false
		}
		for _, a := range c.Args {
			switch a.(type) {
			case *ast.FuncLit:
				return true
			case *ast.CallExpr:
				if _, is := info.TypeOf(a).Underlying().(*types.Signature); is {
					return true
				}
			}
		}
		return false
	}
}

// isFloat tells whether it is the name of the floats' type.
func isFloat(n ast.Node) bool {
	name, is := n.(*ast.Ident)
	return is && name.Name == "float64"
}

// isMap tells whether it is the type of a map.
func isMap(n ast.Node) bool {
	_, is := n.(*ast.MapType)
	return is
}

// isArray tells whether it is the type of an array.
func isArray(n ast.Node) bool {
	a, is := n.(*ast.ArrayType)
	return is && a.Len != nil
}

// embeds is a finder of literals of structs that have another one for their own: the struct may be one of package api.
func embeds(info *types.Info) finder {
	return func(n ast.Node) bool {
		c, is := n.(*ast.CompositeLit)
		if !is || len(c.Elts) == 0 {
			return false
		}
		s, is := info.TypeOf(c).Underlying().(*types.Struct)
		if !is {
			return false
		}
		for f := range s.Fields() {
			if f.Embedded() {
				return true
			}
		}
		return false
	}
}

// promotes is a finder of what is asked of a struct that another one has for its own, by that one's name.
func promotes(info *types.Info) finder {
	return func(n ast.Node) bool {
		x, is := n.(*ast.SelectorExpr)
		return is && info.Selections[x] != nil && len(info.Selections[x].Index()) > 1
	}
}

// comparesStructs is a finder of structs that are held against each other, be it by a function of whatever can be.
func comparesStructs(info *types.Info) finder {
	return func(n ast.Node) bool {
		switch x := n.(type) {
		case *ast.BinaryExpr:
			return (x.Op == token.EQL || x.Op == token.NEQ) && isStruct(info.TypeOf(x.X))
		case *ast.Ident:
			return comparesItems(info, x)
		}
		return false
	}
}

// isStruct tells whether it is a struct's type.
func isStruct(t types.Type) bool {
	_, is := t.Underlying().(*types.Struct)
	return is
}

// comparesItems tells whether it is the name of a function that holds structs against each other here, as its type parameter is of what can be.
func comparesItems(info *types.Info, name *ast.Ident) bool {
	f, is := info.Uses[name].(*types.Func)
	if !is {
		return false
	}
	params, args := f.Signature().TypeParams(), info.Instances[name].TypeArgs
	for i := range args.Len() {
		if types.Comparable(params.At(i)) && isStruct(args.At(i)) {
			return true
		}
	}
	return false
}

// has tells whether a finder finds something in a package's files.
func has(files []source, find finder) bool {
	found := false
	for _, x := range files {
		found = found || within(x.tree, find)
	}
	return found
}

// within tells whether a finder finds something in a part of a file.
func within(part ast.Node, find finder) bool {
	found := false
	ast.Inspect(part, func(n ast.Node) bool {
		found = found || find(n)
		return !found
	})
	return found
}

func TestWays(t *testing.T) {
	l := newLoader(t)
	for pack, ways := range landed() {
		x := l.load(pack)
		all := finders(x.info)
		for _, way := range ways {
			find := all[way]
			if find == nil {
				t.Errorf("%s: no finder of %s", pack, way)
			} else if !has(x.files, find) {
				t.Errorf("%s leans on no %s: the section 'Ways' asks for it", pack, way)
			}
		}
	}
}
