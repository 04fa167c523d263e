package wire_test

import (
	"go/ast"
	"go/parser"
	"go/token"
	"os"
	"strings"
	"testing"
)

func source(t *testing.T) []*ast.File {
	t.Helper()
	names, err := os.ReadDir(".")
	if err != nil {
		t.Fatal(err)
	}
	var l []*ast.File
	for _, n := range names {
		if !strings.HasSuffix(n.Name(), ".go") || strings.HasSuffix(n.Name(), "_test.go") {
			continue
		}
		f, err := parser.ParseFile(token.NewFileSet(), n.Name(), nil, 0)
		if err != nil {
			t.Fatal(err)
		}
		l = append(l, f)
	}
	return l
}

// TestImports: without these a clock, chance, a file or a network can't be asked (R7).
func TestImports(t *testing.T) {
	allowed := map[string]bool{`"legate/api"`: true, `"slices"`: true, `"strings"`: true}
	for _, f := range source(t) {
		for _, i := range f.Imports {
			if !allowed[i.Path.Value] {
				t.Error(i.Path.Value)
			}
		}
	}
}

// TestWays: digits are read by a goto, lists are compared by a method's value.
func TestWays(t *testing.T) {
	jumps, values := 0, 0
	for _, f := range source(t) {
		ast.Inspect(f, func(n ast.Node) bool {
			switch x := n.(type) {
			case *ast.BranchStmt:
				if x.Tok == token.GOTO {
					jumps++
				}
			case *ast.CallExpr:
				if isEqualFunc(x.Fun) && len(x.Args) == 3 {
					if _, ok := x.Args[2].(*ast.SelectorExpr); ok {
						values++
					}
				}
			}
			return true
		})
	}
	if jumps == 0 || values == 0 {
		t.Error(jumps, values)
	}
}

func isEqualFunc(e ast.Expr) bool {
	s, ok := e.(*ast.SelectorExpr)
	return ok && s.Sel.Name == "EqualFunc"
}
