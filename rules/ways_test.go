package rules

import (
	"go/ast"
	"go/token"
	"testing"
)

// need holds that a package has, somewhere, what a way is told by.
func need(t *testing.T, name, way string, is func(n ast.Node) bool) {
	t.Helper()
	found := false
	for _, f := range source(t, name) {
		ast.Inspect(f, func(n ast.Node) bool {
			found = found || is(n)
			return !found
		})
	}
	if !found {
		t.Errorf("%s has no %s", name, way)
	}
}

func isGoto(n ast.Node) bool {
	b, ok := n.(*ast.BranchStmt)
	return ok && b.Tok == token.GOTO
}

// comparesByMethod is a call of EqualFunc that is handed a method's value.
func comparesByMethod(n ast.Node) bool {
	c, ok := n.(*ast.CallExpr)
	if !ok || len(c.Args) != 3 {
		return false
	}
	f, ok := c.Fun.(*ast.SelectorExpr)
	_, method := c.Args[2].(*ast.SelectorExpr)
	return ok && method && f.Sel.Name == "EqualFunc"
}

func isArray(n ast.Node) bool {
	a, ok := n.(*ast.ArrayType)
	return ok && a.Len != nil
}

func isClosure(n ast.Node) bool {
	_, ok := n.(*ast.FuncLit)
	return ok
}

// rangesOverInteger is a range over a number that is written out, counted by len, or named.
func rangesOverInteger(n ast.Node) bool {
	r, ok := n.(*ast.RangeStmt)
	if !ok || r.Value != nil {
		return false
	}
	switch x := r.X.(type) {
	case *ast.BasicLit:
		return x.Kind == token.INT
	case *ast.CallExpr:
		f, ok := x.Fun.(*ast.Ident)
		return ok && f.Name == "len"
	case *ast.Ident:
		return x.Obj != nil && x.Obj.Kind == ast.Con
	}
	return false
}

// laysByCopy is a call of the language's own copy.
func laysByCopy(n ast.Node) bool {
	c, ok := n.(*ast.CallExpr)
	if !ok {
		return false
	}
	f, ok := c.Fun.(*ast.Ident)
	return ok && f.Name == "copy" && f.Obj == nil
}

// isTable is a variable whose value is written out where it stands.
func isTable(n ast.Node) bool {
	v, ok := n.(*ast.ValueSpec)
	if !ok || len(v.Values) != 1 {
		return false
	}
	_, ok = v.Values[0].(*ast.CompositeLit)
	return ok
}

func TestWaysOfWire(t *testing.T) {
	need(t, "wire", "digits that are read by a goto", isGoto)
	need(t, "wire", "list that is compared by a method's value", comparesByMethod)
}

func TestWaysOfSha(t *testing.T) {
	need(t, "sha", "array", isArray)
	need(t, "sha", "closure", isClosure)
	need(t, "sha", "range over an integer", rangesOverInteger)
	need(t, "sha", "constant table", isTable)
}

func TestWaysOfHmac(t *testing.T) {
	need(t, "hmac", "range over an integer", rangesOverInteger)
	need(t, "hmac", "closure", isClosure)
	need(t, "hmac", "key that is laid by copy", laysByCopy)
}

func TestWaysOfAes(t *testing.T) {
	need(t, "aes", "array", isArray)
	need(t, "aes", "table that is made by a goto", isGoto)
	need(t, "aes", "key that is laid by copy", laysByCopy)
}
