package rules

import (
	"go/ast"
	"go/types"
	"slices"
	"strings"
	"testing"
)

// layerWays are the layers built so far, and beside each the ways of the language that the document's section 'Ways' asks for.
var layerWays = map[string]string{
	"round":  "function-field",
	"sat":    "variadic",
	"cx":     "generic-function",
	"arc":    "range-function",
	"gain":   "array",
	"circle": "closure",
	"roots":  "generic-function",
	"flip":   "range-integer copy",
	"scan":   "variadic",
	"two":    "range-function",
	"four":   "array three-index",
	"split":  "range-function",
	"plan":   "range-function",
	"budget": "map struct-compared",
	"fft":    "interface interface-call map",
	"dft":    "array",
	"near":   "embedding promoted method-expression",
	"real":   "variadic",
	"window": "map closure",
	"power":  "range-function array",
}

// wayShown tells of each way whether a piece of a program shows it; the types tell it, where its form does not.
var wayShown = map[string]func(n ast.Node, known *types.Info) bool{
	"function-field":    hasFunctionField,
	"variadic":          isVariadic,
	"generic-function":  isGenericFunction,
	"range-function":    isRangeOverFunction,
	"array":             isArray,
	"closure":           isClosure,
	"range-integer":     isRangeOverNumber,
	"copy":              isCopy,
	"three-index":       isCutTwice,
	"map":               isMap,
	"struct-compared":   isAskedByStruct,
	"interface":         isInterface,
	"interface-call":    isInterfaceCall,
	"embedding":         isEmbedding,
	"promoted":          isPromoted,
	"method-expression": isMethodExpression,
}

func hasFunctionField(n ast.Node, _ *types.Info) bool {
	s, ok := n.(*ast.StructType)
	if !ok {
		return false
	}
	for _, f := range s.Fields.List {
		if _, ok := f.Type.(*ast.FuncType); ok {
			return true
		}
	}
	return false
}

func isVariadic(n ast.Node, _ *types.Info) bool {
	f, ok := n.(*ast.FuncType)
	if !ok || len(f.Params.List) == 0 {
		return false
	}
	_, ok = f.Params.List[len(f.Params.List)-1].Type.(*ast.Ellipsis)
	return ok
}

func isGenericFunction(n ast.Node, _ *types.Info) bool {
	f, ok := n.(*ast.FuncDecl)
	return ok && f.Type.TypeParams != nil
}

func isRangeOverFunction(n ast.Node, known *types.Info) bool {
	r, ok := n.(*ast.RangeStmt)
	if !ok {
		return false
	}
	_, ok = known.TypeOf(r.X).Underlying().(*types.Signature)
	return ok
}

func isRangeOverNumber(n ast.Node, known *types.Info) bool {
	r, ok := n.(*ast.RangeStmt)
	if !ok {
		return false
	}
	t, ok := known.TypeOf(r.X).Underlying().(*types.Basic)
	return ok && t.Info()&types.IsInteger != 0
}

func isCopy(n ast.Node, known *types.Info) bool {
	c, ok := n.(*ast.CallExpr)
	if !ok {
		return false
	}
	name, ok := c.Fun.(*ast.Ident)
	return ok && known.Uses[name] == types.Universe.Lookup("copy")
}

func isArray(n ast.Node, _ *types.Info) bool {
	a, ok := n.(*ast.ArrayType)
	return ok && a.Len != nil
}

// isCutTwice finds a slice that has both its length and its room cut.
func isCutTwice(n ast.Node, _ *types.Info) bool {
	s, ok := n.(*ast.SliceExpr)
	return ok && s.Slice3
}

func isMap(n ast.Node, _ *types.Info) bool {
	_, ok := n.(*ast.MapType)
	return ok
}

// isAskedByStruct finds a map that is asked by a struct: it holds that against its keys.
func isAskedByStruct(n ast.Node, known *types.Info) bool {
	i, ok := n.(*ast.IndexExpr)
	if !ok {
		return false
	}
	// What is asked may be a generic type's name, which has no type by itself.
	asked := known.TypeOf(i.X)
	if asked == nil {
		return false
	}
	m, ok := asked.Underlying().(*types.Map)
	if !ok {
		return false
	}
	_, ok = m.Key().Underlying().(*types.Struct)
	return ok
}

// isInterface finds an interface that asks for methods: one that asks for none tells nothing of what has it.
func isInterface(n ast.Node, _ *types.Info) bool {
	i, ok := n.(*ast.InterfaceType)
	return ok && i.Methods.NumFields() != 0
}

// isInterfaceCall finds a method that is called of an interface, so that its type is told only when the program runs.
func isInterfaceCall(n ast.Node, known *types.Info) bool {
	c, ok := n.(*ast.CallExpr)
	if !ok {
		return false
	}
	s, ok := c.Fun.(*ast.SelectorExpr)
	if !ok {
		return false
	}
	// What stands ahead of the name may be a package, which has no type by itself.
	of := known.TypeOf(s.X)
	return of != nil && types.IsInterface(of)
}

// isEmbedding finds a struct with a part that has no name but its type's.
func isEmbedding(n ast.Node, _ *types.Info) bool {
	s, ok := n.(*ast.StructType)
	return ok && slices.ContainsFunc(s.Fields.List, func(f *ast.Field) bool { return len(f.Names) == 0 })
}

// isPromoted finds what is asked of a struct, and belongs to a part that it embeds.
func isPromoted(n ast.Node, known *types.Info) bool {
	s, ok := n.(*ast.SelectorExpr)
	if !ok {
		return false
	}
	asked := known.Selections[s]
	return asked != nil && len(asked.Index()) > 1
}

// isMethodExpression finds a method that is asked of its type, and so is a function of what it is to be called of.
func isMethodExpression(n ast.Node, known *types.Info) bool {
	s, ok := n.(*ast.SelectorExpr)
	if !ok {
		return false
	}
	asked := known.Selections[s]
	return asked != nil && asked.Kind() == types.MethodExpr
}

// isClosure finds a function that holds on to a variable of the one around it: one that does not is no closure of anything.
func isClosure(n ast.Node, known *types.Info) bool {
	f, ok := n.(*ast.FuncLit)
	if !ok {
		return false
	}
	held := false
	ast.Inspect(f.Body, func(n ast.Node) bool {
		if name, ok := n.(*ast.Ident); ok {
			held = held || isOfFunctionAround(known.Uses[name], f)
		}
		return !held
	})
	return held
}

// isOfFunctionAround tells whether what is named is a variable from outside f that is not of a whole package.
func isOfFunctionAround(named types.Object, f *ast.FuncLit) bool {
	v, ok := named.(*types.Var)
	if !ok || v.IsField() || v.Pkg() == nil || v.Parent() == v.Pkg().Scope() {
		return false
	}
	return v.Pos() < f.Pos() || v.Pos() >= f.End()
}

// The section 'Ways': each layer that is built leans on those that it names.
func TestWays(t *testing.T) {
	p := newProject(t)
	for layer, ways := range layerWays {
		files := p.filesOf(layer)
		for _, way := range strings.Fields(ways) {
			if wayShown[way] == nil {
				t.Errorf("nothing tells whether layer %s has the way %s", layer, way)
			} else if !p.shows(files, wayShown[way]) {
				t.Errorf("layer %s has nothing of the way %s", layer, way)
			}
		}
	}
}

// shows tells whether some piece of the files shows a way.
func (p project) shows(files []*ast.File, way func(n ast.Node, known *types.Info) bool) bool {
	shown := false
	for _, f := range files {
		ast.Inspect(f, func(n ast.Node) bool {
			shown = shown || n != nil && way(n, p.types)
			return !shown
		})
	}
	return shown
}
