package rules

import (
	"bytes"
	"go/ast"
	"go/format"
	"go/parser"
	"go/token"
	"os"
	"path/filepath"
	"slices"
	"strconv"
	"strings"
	"testing"
)

// layerCalls are the layers, and beside each the packages of the document's map that it calls.
var layerCalls = map[string]string{
	"round":  "api",
	"sat":    "api round",
	"cx":     "api round",
	"arc":    "api round",
	"gain":   "api arc",
	"circle": "api arc gain",
	"roots":  "api circle cx round sat",
	"flip":   "api",
	"scan":   "api cx round sat",
	"two":    "api cx flip round",
	"four":   "api cx flip round",
	"split":  "api cx flip roots round sat",
	"plan":   "api",
	"budget": "api plan",
	"fft":    "api flip four plan roots sat scan split two",
	"dft":    "api cx flip roots round scan",
	"near":   "api budget dft fft sat scan",
	"real":   "api budget cx fft flip plan roots sat",
	"window": "api flip roots round sat",
	"power":  "api cx",
	"single": "api flip roots round",
	"choose": "api budget plan",
	"call":   "api fft plan roots",
	"text":   "api plan",
}

// libraryPackages are those that the program may import from outside its own.
const libraryPackages = "bytes cmp container/heap errors iter maps math math/bits slices sort strconv strings sync sync/atomic unicode unicode/utf8"

// longestFunction is a little over the 60 lines that the language's rules name, as these say 'some'.
const longestFunction = 66

// source is a Go file of a layer.
type source struct {
	path string
	text []byte
	set  *token.FileSet
	file *ast.File
}

// eachSource does something with each file of each layer that is no test.
func eachSource(t *testing.T, do func(layer string, s source)) {
	t.Helper()
	for layer := range layerCalls {
		for _, s := range sourcesOf(t, layer, token.NewFileSet()) {
			do(layer, s)
		}
	}
}

// sourcesOf are the files of a package of the project that are no tests.
func sourcesOf(t *testing.T, folder string, set *token.FileSet) []source {
	t.Helper()
	paths, err := filepath.Glob(filepath.Join("..", folder, "*"))
	if err != nil || len(paths) == 0 {
		t.Errorf("folder %s has no files (%v)", folder, err)
	}
	var all []source
	for _, path := range paths {
		if strings.HasSuffix(path, "_test.go") {
			continue
		}
		if !strings.HasSuffix(path, ".go") {
			t.Errorf("%s is no Go file", path)
			continue
		}
		all = append(all, readSource(t, path, set))
	}
	return all
}

func readSource(t *testing.T, path string, set *token.FileSet) source {
	t.Helper()
	text, err := os.ReadFile(path)
	if err != nil {
		t.Fatal(err)
	}
	file, err := parser.ParseFile(set, path, text, parser.ParseComments)
	if err != nil {
		t.Fatal(err)
	}
	return source{path, text, set, file}
}

func has(words, word string) bool { return slices.Contains(strings.Fields(words), word) }

// The map of the document: a layer calls only those beside it there, and few packages of the library.
func TestImports(t *testing.T) {
	eachSource(t, func(layer string, s source) {
		for _, i := range s.file.Imports {
			path, err := strconv.Unquote(i.Path.Value)
			if err != nil {
				t.Fatal(err)
			}
			own, ok := strings.CutPrefix(path, "headroom/")
			_, isLayer := layerCalls[own]
			switch {
			case !ok && !has(libraryPackages, path):
				t.Errorf("%s imports %s", s.path, path)
			case ok && isLayer && !has(layerCalls[layer], own):
				t.Errorf("%s calls layer %s, which the map does not list", s.path, own)
			}
		}
	})
}

// Rules 2 and 9: no line for the compiler, gofmt's layout.
func TestLayout(t *testing.T) {
	eachSource(t, func(_ string, s source) {
		for _, g := range s.file.Comments {
			for _, c := range g.List {
				if strings.HasPrefix(c.Text, "//go:") || strings.HasPrefix(c.Text, "// +build") {
					t.Errorf("%s has the line %s", s.path, c.Text)
				}
			}
		}
		if laid, err := format.Source(s.text); err != nil || !bytes.Equal(laid, s.text) {
			t.Errorf("%s is not laid out as gofmt does it (%v)", s.path, err)
		}
	})
}

// Rule 9: functions are not long.
func TestFunctionsAreShort(t *testing.T) {
	eachSource(t, func(_ string, s source) {
		for _, d := range s.file.Decls {
			f, ok := d.(*ast.FuncDecl)
			if !ok {
				continue
			}
			if n := s.set.Position(f.End()).Line - s.set.Position(f.Pos()).Line + 1; n > longestFunction {
				t.Errorf("%s: %s has %d lines", s.path, f.Name.Name, n)
			}
		}
	})
}

// R1, and the rules 3a and 3b: no variable at package level is without a value, or a map, or one of functions.
func TestNothingToKeepIn(t *testing.T) {
	eachSource(t, func(_ string, s source) {
		for _, d := range s.file.Decls {
			g, ok := d.(*ast.GenDecl)
			if !ok || g.Tok != token.VAR {
				continue
			}
			for _, spec := range g.Specs {
				v := spec.(*ast.ValueSpec)
				if len(v.Values) == 0 {
					t.Errorf("%s: %s has no value of its own", s.path, v.Names[0].Name)
				}
				ast.Inspect(v, func(n ast.Node) bool {
					switch n.(type) {
					case *ast.MapType, *ast.FuncType, *ast.ChanType:
						t.Errorf("%s: %s is no table of literals", s.path, v.Names[0].Name)
					}
					return true
				})
			}
		}
	})
}
