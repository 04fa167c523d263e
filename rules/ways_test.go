package rules

import (
	"go/ast"
	"go/token"
	"slices"
	"testing"
)

// need holds that a package has, somewhere, what a way is told by.
func need(t *testing.T, name, way string, is func(n ast.Node) bool) {
	t.Helper()
	found := false
	for _, f := range source(t, name) {
		ast.Inspect(f, func(n ast.Node) bool {
			found = found || is(n)
			return !found
		})
	}
	if !found {
		t.Errorf("%s has no %s", name, way)
	}
}

// ownFunctions are a package's own functions and methods, by their names; those of unlike types may have the same.
func ownFunctions(t *testing.T, name string) map[string][]ast.Node {
	t.Helper()
	m := map[string][]ast.Node{}
	for _, f := range source(t, name) {
		for _, d := range f.Decls {
			if f, ok := d.(*ast.FuncDecl); ok {
				m[f.Name.Name] = append(m[f.Name.Name], f)
			}
		}
	}
	return m
}

// needFrom holds that a function has what a way is told by, itself or in one of the package's own functions and methods that it names.
func needFrom(t *testing.T, name, from, way string, is func(n ast.Node) bool) {
	t.Helper()
	own := ownFunctions(t, name)
	found := false
	for work := []string{from}; len(work) > 0; work = work[1:] {
		functions := own[work[0]]
		delete(own, work[0])
		for _, f := range functions {
			ast.Inspect(f, func(n ast.Node) bool {
				if i, ok := n.(*ast.Ident); ok {
					work = append(work, i.Name)
				}
				found = found || is(n)
				return true
			})
		}
	}
	if !found {
		t.Errorf("%s: %s has no %s", name, from, way)
	}
}

func isGoto(n ast.Node) bool {
	b, ok := n.(*ast.BranchStmt)
	return ok && b.Tok == token.GOTO
}

// comparesByMethod is a call of EqualFunc that is handed a method's value.
func comparesByMethod(n ast.Node) bool {
	c, ok := n.(*ast.CallExpr)
	if !ok || len(c.Args) != 3 {
		return false
	}
	f, ok := c.Fun.(*ast.SelectorExpr)
	_, method := c.Args[2].(*ast.SelectorExpr)
	return ok && method && f.Sel.Name == "EqualFunc"
}

func isArray(n ast.Node) bool {
	a, ok := n.(*ast.ArrayType)
	return ok && a.Len != nil
}

func isClosure(n ast.Node) bool {
	_, ok := n.(*ast.FuncLit)
	return ok
}

// rangesOverInteger is a range over a number that is written out, counted by len, or named.
func rangesOverInteger(n ast.Node) bool {
	r, ok := n.(*ast.RangeStmt)
	if !ok || r.Value != nil {
		return false
	}
	switch x := r.X.(type) {
	case *ast.BasicLit:
		return x.Kind == token.INT
	case *ast.CallExpr:
		f, ok := x.Fun.(*ast.Ident)
		return ok && f.Name == "len"
	case *ast.Ident:
		return x.Obj != nil && x.Obj.Kind == ast.Con
	}
	return false
}

// answersTeller tells whether a function answers another one that can be ranged over.
func answersTeller(f *ast.FuncDecl) bool {
	if f.Type.Results == nil || len(f.Type.Results.List) != 1 {
		return false
	}
	switch x := f.Type.Results.List[0].Type.(type) {
	case *ast.FuncType:
		return true
	case *ast.IndexExpr:
		return isSequence(x.X)
	case *ast.IndexListExpr:
		return isSequence(x.X)
	}
	return false
}

// isSequence is iter.Seq or iter.Seq2.
func isSequence(n ast.Expr) bool {
	s, ok := n.(*ast.SelectorExpr)
	if !ok {
		return false
	}
	p, ok := s.X.(*ast.Ident)
	return ok && p.Name == "iter"
}

// tellers are the names of a package's own functions and methods whose answers can be ranged over.
func tellers(t *testing.T, name string) []string {
	t.Helper()
	var l []string
	for _, f := range source(t, name) {
		for _, d := range f.Decls {
			if f, ok := d.(*ast.FuncDecl); ok && answersTeller(f) {
				l = append(l, f.Name.Name)
			}
		}
	}
	return l
}

// rangesOverFunction is a range over what one of the package's own functions answers.
func rangesOverFunction(t *testing.T, name string) func(n ast.Node) bool {
	t.Helper()
	own := tellers(t, name)
	return func(n ast.Node) bool {
		r, ok := n.(*ast.RangeStmt)
		if !ok {
			return false
		}
		c, ok := r.X.(*ast.CallExpr)
		if !ok {
			return false
		}
		switch f := c.Fun.(type) {
		case *ast.Ident:
			return slices.Contains(own, f.Name)
		case *ast.SelectorExpr:
			return slices.Contains(own, f.Sel.Name)
		}
		return false
	}
}

// callsOwn is a call of one of the language's own functions.
func callsOwn(name string) func(n ast.Node) bool {
	return func(n ast.Node) bool {
		c, ok := n.(*ast.CallExpr)
		if !ok {
			return false
		}
		f, ok := c.Fun.(*ast.Ident)
		return ok && f.Name == name && f.Obj == nil
	}
}

// isMapByTexts is a map whose keys are texts.
func isMapByTexts(n ast.Node) bool {
	m, ok := n.(*ast.MapType)
	if !ok {
		return false
	}
	k, ok := m.Key.(*ast.Ident)
	return ok && k.Name == "string"
}

// isTable is a variable whose value is written out where it stands.
func isTable(n ast.Node) bool {
	v, ok := n.(*ast.ValueSpec)
	if !ok || len(v.Values) != 1 {
		return false
	}
	_, ok = v.Values[0].(*ast.CompositeLit)
	return ok
}

// isVariadic is a function that is handed as many as one likes.
func isVariadic(n ast.Node) bool {
	f, ok := n.(*ast.FuncDecl)
	if !ok {
		return false
	}
	l := f.Type.Params.List
	if len(l) == 0 {
		return false
	}
	_, ok = l[len(l)-1].Type.(*ast.Ellipsis)
	return ok
}

// isBareSwitch is a switch without a value, of more than one case.
func isBareSwitch(n ast.Node) bool {
	s, ok := n.(*ast.SwitchStmt)
	return ok && s.Tag == nil && len(s.Body.List) > 1
}

// callsEqual is a call of hmac.Equal, that takes as long wherever texts part: no answer tells whether it was asked.
func callsEqual(n ast.Node) bool {
	c, ok := n.(*ast.CallExpr)
	if !ok {
		return false
	}
	f, ok := c.Fun.(*ast.SelectorExpr)
	if !ok || f.Sel.Name != "Equal" {
		return false
	}
	p, ok := f.X.(*ast.Ident)
	return ok && p.Name == "hmac"
}

// countsByIota is a constant that is counted, not written out.
func countsByIota(n ast.Node) bool {
	v, ok := n.(*ast.ValueSpec)
	if !ok {
		return false
	}
	found := false
	for _, x := range v.Values {
		ast.Inspect(x, func(n ast.Node) bool {
			i, ok := n.(*ast.Ident)
			found = found || ok && i.Name == "iota"
			return true
		})
	}
	return found
}

// reckonsComplex is a call of the language's own complex, real or imag.
func reckonsComplex(n ast.Node) bool {
	c, ok := n.(*ast.CallExpr)
	if !ok {
		return false
	}
	f, ok := c.Fun.(*ast.Ident)
	return ok && f.Obj == nil && slices.Contains([]string{"complex", "real", "imag"}, f.Name)
}

// isHandedPointer is a closure that is handed a pointer.
func isHandedPointer(n ast.Node) bool {
	f, ok := n.(*ast.FuncLit)
	if !ok {
		return false
	}
	return slices.ContainsFunc(f.Type.Params.List, func(p *ast.Field) bool {
		_, ok := p.Type.(*ast.StarExpr)
		return ok
	})
}

func TestWaysOfWire(t *testing.T) {
	need(t, "wire", "digits that are read by a goto", isGoto)
	need(t, "wire", "list that is compared by a method's value", comparesByMethod)
}

func TestWaysOfSha(t *testing.T) {
	need(t, "sha", "array", isArray)
	need(t, "sha", "closure", isClosure)
	need(t, "sha", "range over an integer", rangesOverInteger)
	need(t, "sha", "constant table", isTable)
}

func TestWaysOfHmac(t *testing.T) {
	need(t, "hmac", "range over an integer", rangesOverInteger)
	need(t, "hmac", "closure", isClosure)
	need(t, "hmac", "key that is laid by copy", callsOwn("copy"))
}

func TestWaysOfAes(t *testing.T) {
	need(t, "aes", "array", isArray)
	need(t, "aes", "table that is made by a goto", isGoto)
	need(t, "aes", "key that is laid by copy", callsOwn("copy"))
}

func TestWaysOfCtr(t *testing.T) {
	need(t, "ctr", "range over an integer", rangesOverInteger)
	need(t, "ctr", "block that is told by a function to range over", rangesOverFunction(t, "ctr"))
}

func TestWaysOfDerive(t *testing.T) {
	need(t, "derive", "variadic function that writes numbers", isVariadic)
}

func TestWaysOfSeal(t *testing.T) {
	needFrom(t, "seal", "Open", "switch without a value", isBareSwitch)
	needFrom(t, "seal", "Open", "sum that is compared by hmac.Equal", callsEqual)
	needFrom(t, "seal", "Check", "sum that is compared by hmac.Equal", callsEqual)
}

func TestWaysOfTerm(t *testing.T) {
	for _, maker := range []string{"List", "Seal", "Sum", "Row"} {
		needFrom(t, "term", maker, "list that is made by a variadic call", isVariadic)
	}
	for _, teller := range []string{"Size", "Parts"} {
		needFrom(t, "term", teller, "part that is told by a function to range over", rangesOverFunction(t, "term"))
	}
	needFrom(t, "term", "Valid", "closure that is asked what is odd", isClosure)
}

func TestWaysOfCarry(t *testing.T) {
	need(t, "carry", "tag that is counted by iota", countsByIota)
	needFrom(t, "carry", "Pack", "array that a number is laid into", isArray)
	needFrom(t, "carry", "Unpack", "closure that looks through keys", isClosure)
	needFrom(t, "carry", "Unpack", "bytes of a key that are compared by hmac.Equal", callsEqual)
}

func TestWaysOfSpan(t *testing.T) {
	for _, reckoner := range []string{"Point", "Of", "Both", "Cut", "Check", "Near"} {
		needFrom(t, "span", reckoner, "span that is reckoned as a complex number", reckonsComplex)
	}
	for _, asker := range []string{"Valid", "Cut", "Check", "Near"} {
		needFrom(t, "span", asker, "time that is asked by a variadic call", isVariadic)
	}
}

func TestWaysOfKnow(t *testing.T) {
	needFrom(t, "know", "New", "map of known terms, by their marks", isMapByTexts)
	needFrom(t, "know", "Learn", "delete of what waits", callsOwn("delete"))
	needFrom(t, "know", "Can", "closure that is asked what cannot be made", isClosure)
}

func TestWaysOfPolicy(t *testing.T) {
	needFrom(t, "policy", "New", "map of principals, by their names", isMapByTexts)
	for _, changer := range []string{"Allow", "Acts"} {
		needFrom(t, "policy", changer, "closure that is handed a pointer", isHandedPointer)
	}
}

func TestWaysOfAuthz(t *testing.T) {
	for _, asker := range []string{"Valid", "Read"} {
		needFrom(t, "authz", asker, "closure that is asked what is odd", isClosure)
	}
}
