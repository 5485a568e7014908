package table

import (
	"go/ast"
	"go/parser"
	"go/token"
	"testing"

	"oxbow/api"
)

// TestWayOfSource: a way of layer 11: where a table's bytes come from is a function in a field.
func TestWayOfSource(t *testing.T) {
	calledWith := [][2]int{}
	table := &Table{spans: []Span{{"a", 3, 11}, {"b", 14, 9}}}
	table.src = func(at, n int) (string, api.Errno) {
		calledWith = append(calledWith, [2]int{at, n})
		return frames("x"), api.OK
	}
	wantBlock(t, "a function in the field", table, 1, "x", api.OK)
	wantBlock(t, "a function in the field", table, 0, "", api.ErrForm)
	if len(calledWith) != 2 || calledWith[0] != [2]int{14, 9} || calledWith[1] != [2]int{3, 11} {
		t.Errorf("the function in the field is called with %v", calledWith)
	}
	found := 0
	for _, n := range within(t, "read.go", "body") {
		if call, ok := n.(*ast.CallExpr); ok && calls(call, "src") {
			found++
		}
	}
	if found != 1 {
		t.Errorf("body calls the function in the field %d times", found)
	}
}

// TestWayOfFaults: a way of layer 11: a fault leaves by panic, recovered.
func TestWayOfFaults(t *testing.T) {
	for _, s := range []string{"", "\x01", "\x00\x00", "\x02\x02", "\x02\x02a\x02\x10"} {
		if _, ok := thrown(func() { spansOf(s, 8) }).(fault); !ok {
			t.Errorf("reading the index %x isn't left by a fault", s)
		}
	}
	if _, ok := thrown(func() { bytesOf(many(1<<16), 1, 1) }).(fault); !ok {
		t.Errorf("building too long an index isn't left by a fault")
	}
	if e := caught(func() { panic(fault(api.ErrSum)) }); e != api.ErrSum {
		t.Errorf("a fault is caught as %d", e)
	}
	if e := caught(func() {}); e != api.OK {
		t.Errorf("no fault is caught as %d", e)
	}
	for _, other := range []any{"other", 4, api.ErrForm, error(api.ErrForm)} {
		if got := thrown(func() { caught(func() { panic(other) }) }); got != other {
			t.Errorf("%#v, which is no fault, is %#v behind caught", other, got)
		}
	}
	found := 0
	for _, n := range within(t, "fault.go", "caught") {
		if d, ok := n.(*ast.DeferStmt); ok && recoversAndAsserts(d) {
			found++
		}
	}
	if found != 1 {
		t.Errorf("caught has %d deferred literals that recover and assert", found)
	}
}

// TestWayOfIndex: a way of layer 11: closures read an index.
func TestWayOfIndex(t *testing.T) {
	numbers, texts := 0, 0
	for _, n := range within(t, "read.go", "spansOf") {
		l, ok := n.(*ast.FuncLit)
		if !ok {
			continue
		}
		if calls(l, "Get") {
			numbers++
		}
		if calls(l, "GetText") {
			texts++
		}
	}
	if numbers != 1 || texts != 1 {
		t.Errorf("spansOf has %d closures that read numbers, and %d that read texts", numbers, texts)
	}
}

// thrown: what a function panics with.
func thrown(do func()) (what any) {
	defer func() { what = recover() }()
	do()
	return nil
}

// within: all that stands in a function of a file.
func within(t *testing.T, file, name string) []ast.Node {
	t.Helper()
	tree, err := parser.ParseFile(token.NewFileSet(), file, nil, 0)
	if err != nil {
		t.Fatal(err)
	}
	for _, d := range tree.Decls {
		if f, ok := d.(*ast.FuncDecl); ok && f.Name.Name == name {
			return nodes(f)
		}
	}
	t.Fatalf("%s has no function %s", file, name)
	return nil
}

// nodes: a part of the program, and all of its parts.
func nodes(root ast.Node) []ast.Node {
	var l []ast.Node
	ast.Inspect(root, func(n ast.Node) bool {
		if n != nil {
			l = append(l, n)
		}
		return true
	})
	return l
}

// recoversAndAsserts: is what is deferred a literal that does both?
func recoversAndAsserts(d *ast.DeferStmt) bool {
	l, ok := d.Call.Fun.(*ast.FuncLit)
	if !ok || !calls(l, "recover") {
		return false
	}
	for _, n := range nodes(l) {
		if x, ok := n.(*ast.TypeAssertExpr); ok && x.Type != nil {
			return true
		}
	}
	return false
}

// calls: is a function of that name called within?
func calls(root ast.Node, name string) bool {
	for _, n := range nodes(root) {
		call, ok := n.(*ast.CallExpr)
		if !ok {
			continue
		}
		switch f := call.Fun.(type) {
		case *ast.Ident:
			ok = f.Name == name
		case *ast.SelectorExpr:
			ok = f.Sel.Name == name
		default:
			ok = false
		}
		if ok {
			return true
		}
	}
	return false
}
