package rules

import (
	"go/ast"
	"go/importer"
	"go/token"
	"go/types"
	"strings"
	"testing"
)

// loaded is a package whose types are known.
type loaded struct {
	files []source
	pack  *types.Package
	info  *types.Info
}

// loader loads packages, each once: the program's own from their folders, the library's by their paths.
type loader struct {
	t       *testing.T
	library types.Importer
	met     map[string]*loaded
}

// newLoader is a loader that has loaded none.
func newLoader(t *testing.T) *loader {
	// The library's source, as its compiled packages aren't at hand everywhere.
	return &loader{t, importer.ForCompiler(token.NewFileSet(), "source", nil), map[string]*loaded{}}
}

// Import is a package that another one imports.
func (l *loader) Import(path string) (*types.Package, error) {
	if own, is := strings.CutPrefix(path, "shoring/"); is {
		return l.load(own).pack, nil
	}
	return l.library.Import(path)
}

// load is a package of the program's.
func (l *loader) load(pack string) *loaded {
	l.t.Helper()
	if x, is := l.met[pack]; is {
		return x
	}
	files := sources(l.t, pack)
	var trees []*ast.File
	for _, f := range files {
		trees = append(trees, f.tree)
	}
	info := &types.Info{Types: map[ast.Expr]types.TypeAndValue{}, Uses: map[*ast.Ident]types.Object{}, Instances: map[*ast.Ident]types.Instance{}, Selections: map[*ast.SelectorExpr]*types.Selection{}}
	config := types.Config{Importer: l}
	p, err := config.Check("shoring/"+pack, files[0].set, trees, info)
	if err != nil {
		l.t.Fatal(err)
	}
	x := &loaded{files, p, info}
	l.met[pack] = x
	return x
}
