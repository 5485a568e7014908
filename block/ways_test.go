package block

import (
	"go/ast"
	"go/parser"
	"go/token"
	"testing"

	"oxbow/api"
)

// TestWayOfFaults: a way of layer 10: a fault leaves by panic, recovered.
func TestWayOfFaults(t *testing.T) {
	for _, s := range []string{"", "\x01", "\x00\x00", "\x02\x02", "\x02\x00\x00\x02\x00"} {
		if _, ok := thrown(func() { (&reader{s: s}).entries() }).(fault); !ok {
			t.Errorf("reading %x isn't left by a fault", s)
		}
	}
	if e := caught(func() { panic(fault(api.ErrSum)) }); e != api.ErrSum {
		t.Errorf("a fault is caught as %d", e)
	}
	if e := caught(func() {}); e != api.OK {
		t.Errorf("no fault is caught as %d", e)
	}
	for _, other := range []any{"other", 4, api.ErrForm, error(api.ErrForm)} {
		if got := thrown(func() { caught(func() { panic(other) }) }); got != other {
			t.Errorf("%#v, which is no fault, is %#v behind caught", other, got)
		}
	}
	found := 0
	for _, n := range within(t, "reader.go", "caught") {
		if d, ok := n.(*ast.DeferStmt); ok && recoversAndAsserts(d) {
			found++
		}
	}
	if found != 1 {
		t.Errorf("caught has %d deferred literals that recover and assert", found)
	}
}

// TestWayOfFind: a way of layer 10: an entry is looked for by a closure.
func TestWayOfFind(t *testing.T) {
	closures := 0
	for _, n := range within(t, "block.go", "Find") {
		if l, ok := n.(*ast.FuncLit); ok && calls(l, "Less") {
			closures++
		}
	}
	if closures != 1 {
		t.Errorf("Find has %d closures that hold entries against each other", closures)
	}
}

// thrown: what a function panics with.
func thrown(do func()) (what any) {
	defer func() { what = recover() }()
	do()
	return nil
}

// within: all that stands in a function of a file.
func within(t *testing.T, file, name string) []ast.Node {
	t.Helper()
	tree, err := parser.ParseFile(token.NewFileSet(), file, nil, 0)
	if err != nil {
		t.Fatal(err)
	}
	for _, d := range tree.Decls {
		if f, ok := d.(*ast.FuncDecl); ok && f.Name.Name == name {
			return nodes(f)
		}
	}
	t.Fatalf("%s has no function %s", file, name)
	return nil
}

// nodes: a part of the program, and all of its parts.
func nodes(root ast.Node) []ast.Node {
	var l []ast.Node
	ast.Inspect(root, func(n ast.Node) bool {
		if n != nil {
			l = append(l, n)
		}
		return true
	})
	return l
}

// recoversAndAsserts: is what is deferred a literal that does both?
func recoversAndAsserts(d *ast.DeferStmt) bool {
	l, ok := d.Call.Fun.(*ast.FuncLit)
	if !ok || !calls(l, "recover") {
		return false
	}
	for _, n := range nodes(l) {
		if x, ok := n.(*ast.TypeAssertExpr); ok && x.Type != nil {
			return true
		}
	}
	return false
}

// calls: is a function of that name called within?
func calls(root ast.Node, name string) bool {
	for _, n := range nodes(root) {
		call, ok := n.(*ast.CallExpr)
		if !ok {
			continue
		}
		switch f := call.Fun.(type) {
		case *ast.Ident:
			ok = f.Name == name
		case *ast.SelectorExpr:
			ok = f.Sel.Name == name
		default:
			ok = false
		}
		if ok {
			return true
		}
	}
	return false
}
