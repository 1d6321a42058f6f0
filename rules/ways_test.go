package rules

import (
	"go/ast"
	"strings"
	"testing"
)

// layerWays are the layers built so far, and beside each the ways of the language that the document's section 'Ways' asks for.
var layerWays = map[string]string{
	"round": "function-field",
	"sat":   "variadic",
	"cx":    "generic-function",
}

// wayShown tells of each way whether a piece of a program shows it.
var wayShown = map[string]func(n ast.Node) bool{
	"function-field":   hasFunctionField,
	"variadic":         isVariadic,
	"generic-function": isGenericFunction,
}

func hasFunctionField(n ast.Node) bool {
	s, ok := n.(*ast.StructType)
	if !ok {
		return false
	}
	for _, f := range s.Fields.List {
		if _, ok := f.Type.(*ast.FuncType); ok {
			return true
		}
	}
	return false
}

func isVariadic(n ast.Node) bool {
	f, ok := n.(*ast.FuncType)
	if !ok || len(f.Params.List) == 0 {
		return false
	}
	_, ok = f.Params.List[len(f.Params.List)-1].Type.(*ast.Ellipsis)
	return ok
}

func isGenericFunction(n ast.Node) bool {
	f, ok := n.(*ast.FuncDecl)
	return ok && f.Type.TypeParams != nil
}

// The section 'Ways': each layer that is built leans on those that it names.
func TestWays(t *testing.T) {
	shown := map[string]int{}
	eachSource(t, func(layer string, s source) {
		for way, shows := range wayShown {
			ast.Inspect(s.file, func(n ast.Node) bool {
				if n != nil && shows(n) {
					shown[layer+" "+way]++
				}
				return true
			})
		}
	})
	for layer, ways := range layerWays {
		for _, way := range strings.Fields(ways) {
			if wayShown[way] == nil {
				t.Errorf("nothing tells whether layer %s has the way %s", layer, way)
			} else if shown[layer+" "+way] == 0 {
				t.Errorf("layer %s has nothing of the way %s", layer, way)
			}
		}
	}
}
