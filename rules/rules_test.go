// Package rules holds tests alone: of what each layer's source may be made of.
package rules

import (
	"go/ast"
	"go/parser"
	"go/token"
	"os"
	"path/filepath"
	"slices"
	"strconv"
	"strings"
	"testing"
)

// layer is a line of the document's map: a package, and those below that it may call.
type layer struct{ name, calls string }

func layers() []layer {
	return []layer{
		{"wire", ""},
		{"sha", ""},
		{"hmac", "sha"},
		{"aes", ""},
		{"ctr", "aes"},
		{"derive", "hmac"},
		{"seal", "hmac ctr derive"},
		{"term", ""},
		{"carry", "wire hmac derive seal term"},
		{"span", ""},
		{"know", "term"},
		{"policy", "term"},
		{"authz", "term"},
		{"ticket", "term span authz"},
		{"replay", "term"},
		{"login", "term span policy authz ticket replay"},
		{"grant", "term span authz ticket login"},
		{"transit", "term policy login grant"},
		{"proxy", "span policy authz ticket login grant"},
		{"cred", "term span ticket"},
		{"client", "span login grant cred"},
		{"backend", "span authz replay cred"},
		{"middle", "term ticket grant transit cred client backend"},
		{"realm", "term know policy authz ticket login grant transit proxy cred middle"},
		{"script", "term policy"},
	}
}

// library is what the language's rules let the program import: no clock, chance, file or network can be asked by it (R7).
const library = "bytes cmp container/heap errors iter maps math math/bits slices sort strconv strings sync sync/atomic unicode unicode/utf8"

// source is what a package is made of, without its tests.
func source(t *testing.T, name string) []*ast.File {
	t.Helper()
	names, err := filepath.Glob(filepath.Join("..", name, "*.go"))
	if err != nil {
		t.Fatal(err)
	}
	var l []*ast.File
	for _, n := range names {
		if strings.HasSuffix(n, "_test.go") {
			continue
		}
		f, err := parser.ParseFile(token.NewFileSet(), n, nil, parser.ParseComments)
		if err != nil {
			t.Fatal(err)
		}
		l = append(l, f)
	}
	if len(l) == 0 {
		t.Fatal(name, "has no source")
	}
	return l
}

// mayImport tells whether a layer may import a path.
func mayImport(y layer, path string) bool {
	own, ok := strings.CutPrefix(path, "legate/")
	if !ok {
		return slices.Contains(strings.Fields(library), path)
	}
	return own == "api" || slices.Contains(strings.Fields(y.calls), own)
}

func TestImports(t *testing.T) {
	for _, y := range layers() {
		for _, f := range source(t, y.name) {
			for _, i := range f.Imports {
				if path, err := strconv.Unquote(i.Path.Value); err != nil || !mayImport(y, path) {
					t.Error(y.name, "imports", i.Path.Value)
				}
			}
		}
	}
}

// TestGoFilesAlone: a layer's folder has nothing but Go files, without lines that tell the compiler something.
func TestGoFilesAlone(t *testing.T) {
	for _, y := range layers() {
		l, err := os.ReadDir(filepath.Join("..", y.name))
		if err != nil {
			t.Fatal(err)
		}
		for _, n := range l {
			if n.IsDir() || !strings.HasSuffix(n.Name(), ".go") {
				t.Error(y.name, "has", n.Name())
			}
		}
		for _, f := range source(t, y.name) {
			for _, g := range f.Comments {
				for _, c := range g.List {
					if strings.HasPrefix(c.Text, "//go:") || strings.HasPrefix(c.Text, "// +build") {
						t.Error(y.name, "has", c.Text)
					}
				}
			}
		}
	}
}
