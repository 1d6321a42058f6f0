package rules

import (
	"go/ast"
	"go/importer"
	"go/token"
	"go/types"
	"strings"
	"testing"
)

// project reads packages of the project, with the types of all that is in them.
type project struct {
	t       *testing.T
	set     *token.FileSet
	types   *types.Info
	library types.Importer
	files   map[string][]*ast.File
	read    map[string]*types.Package
}

func newProject(t *testing.T) project {
	set := token.NewFileSet()
	return project{
		t:       t,
		set:     set,
		types:   &types.Info{Types: map[ast.Expr]types.TypeAndValue{}, Uses: map[*ast.Ident]types.Object{}, Selections: map[*ast.SelectorExpr]*types.Selection{}},
		library: importer.ForCompiler(set, "source", nil),
		files:   map[string][]*ast.File{},
		read:    map[string]*types.Package{},
	}
}

// Import is the package of a path, read once: of the project from the folder beside this one, any other from the library.
func (p project) Import(path string) (*types.Package, error) {
	folder, ok := strings.CutPrefix(path, "headroom/")
	if !ok {
		return p.library.Import(path)
	}
	if known := p.read[path]; known != nil {
		return known, nil
	}
	for _, s := range sourcesOf(p.t, folder, p.set) {
		p.files[folder] = append(p.files[folder], s.file)
	}
	checked := types.Config{Importer: p}
	pack, err := checked.Check(path, p.set, p.files[folder], p.types)
	p.read[path] = pack
	return pack, err
}

// filesOf are the files of a layer, whose types are known then.
func (p project) filesOf(layer string) []*ast.File {
	p.t.Helper()
	if _, err := p.Import("headroom/" + layer); err != nil {
		p.t.Fatal(err)
	}
	return p.files[layer]
}
