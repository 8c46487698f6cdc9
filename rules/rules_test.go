package rules

import (
	"bytes"
	"go/ast"
	"go/format"
	"go/parser"
	"go/token"
	"os"
	"path/filepath"
	"slices"
	"strconv"
	"strings"
	"testing"
)

// packages are named one by one: other folders that stand in a checkout aren't the program's.
func packages() []string {
	return strings.Fields("api num float bitmap arena index runs heap chain pool large cache stacks fns frame walk slots move policy model gor machine audit inject script play drain sample console")
}

// library is what may be imported of Go's library.
func library() []string {
	return strings.Fields("bytes cmp container/heap errors iter maps math math/bits slices sort strconv strings sync sync/atomic unicode unicode/utf8")
}

// longest is how many lines a function has at most.
const longest = 60

// source is a file of the program.
type source struct {
	name string
	text []byte
	set  *token.FileSet
	tree *ast.File
}

// sources are a package's files, its tests left out.
func sources(t *testing.T, pack string) []source {
	t.Helper()
	names, err := filepath.Glob(filepath.Join("..", pack, "*.go"))
	if err != nil {
		t.Fatal(err)
	}
	set := token.NewFileSet()
	var l []source
	for _, name := range names {
		if strings.HasSuffix(name, "_test.go") {
			continue
		}
		text, err := os.ReadFile(name)
		if err != nil {
			t.Fatal(err)
		}
		tree, err := parser.ParseFile(set, name, text, parser.ParseComments)
		if err != nil {
			t.Fatal(err)
		}
		l = append(l, source{name, text, set, tree})
	}
	if len(l) == 0 {
		t.Fatalf("package %s has no files", pack)
	}
	return l
}

// each asks something of every file of the program.
func each(t *testing.T, ask func(x source)) {
	t.Helper()
	for _, pack := range packages() {
		for _, x := range sources(t, pack) {
			ask(x)
		}
	}
}

func TestImports(t *testing.T) {
	each(t, func(x source) {
		for _, i := range x.tree.Imports {
			path, err := strconv.Unquote(i.Path.Value)
			if err != nil {
				t.Fatal(err)
			}
			own, is := strings.CutPrefix(path, "shoring/")
			if is && slices.Contains(packages(), own) || slices.Contains(library(), path) {
				continue
			}
			t.Errorf("%s imports %s", x.name, path)
		}
	})
}

func TestNoDirectives(t *testing.T) {
	each(t, func(x source) {
		for _, group := range x.tree.Comments {
			for _, c := range group.List {
				if strings.HasPrefix(c.Text, "//go:") || strings.HasPrefix(c.Text, "// +build") {
					t.Errorf("%s has the line %s", x.name, c.Text)
				}
			}
		}
	})
}

func TestLayout(t *testing.T) {
	each(t, func(x source) {
		laid, err := format.Source(x.text)
		if err != nil {
			t.Fatal(err)
		}
		if !bytes.Equal(laid, x.text) {
			t.Errorf("%s isn't laid out as gofmt does", x.name)
		}
	})
}

func TestFunctionsAreShort(t *testing.T) {
	each(t, func(x source) {
		for _, d := range x.tree.Decls {
			f, is := d.(*ast.FuncDecl)
			if !is {
				continue
			}
			lines := x.set.Position(f.End()).Line - x.set.Position(f.Pos()).Line + 1
			if lines > longest {
				t.Errorf("%s: %s has %d lines", x.name, f.Name.Name, lines)
			}
		}
	})
}
