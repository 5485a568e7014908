package pick

import (
	"go/ast"
	"go/parser"
	"go/token"
	"slices"
	"testing"

	"oxbow/api"
	"oxbow/version"
)

// TestWayOfClosure: a way of layer 15: a table is looked for by a closure.
func TestWayOfClosure(t *testing.T) {
	v := made(t, sized(1, 1, 99, "a", "b"), sized(1, 2, 99, "c", "h"), sized(1, 3, 99, "k", "l"))
	if l := next(v, 1, "a"); len(l) != 1 || l[0].File != 2 {
		t.Errorf("behind the cursor stands %s", said(l))
	}
	// The closure has the cursor from the function around it, and the table as its own argument.
	found := 0
	for _, n := range within(t, "next") {
		lit, ok := n.(*ast.FuncLit)
		if ok && len(lit.Type.Params.List) == 1 && names(lit.Body, "cursor") && names(lit.Body, "Lo") {
			found++
		}
	}
	if found != 1 {
		t.Errorf("next has %d closures that look for a table", found)
	}
}

// TestWayOfRoom: a way of layer 15: a list is cut with its room, so that what is appended to it isn't written over the tables behind it.
func TestWayOfRoom(t *testing.T) {
	v := roomy(made(t, allFull...))
	was := roomy(v)
	for level := range api.Levels - 1 {
		for _, cursor := range []string{"", "a", "b", "z"} {
			l := next(v, level, cursor)
			if len(l) == 0 || len(l) != cap(l) {
				t.Errorf("of level %d come %d tables, with room for %d", level, len(l), cap(l))
			}
			l = append(l, version.Meta{File: -7}, version.Meta{File: -7}, version.Meta{File: -7})
			for i := range api.Levels {
				if n := len(v.Levels[i]) + 3; !slices.Equal(v.Levels[i][:n], was.Levels[i][:n]) {
					t.Errorf("what is appended to %s is written into level %d: %s", said(l), i, said(v.Levels[i][:n]))
				}
			}
		}
	}
	found := 0
	for _, n := range within(t, "next") {
		if s, ok := n.(*ast.SliceExpr); ok && s.Slice3 && names(s.X, "tables") {
			found++
		}
	}
	if found != 1 {
		t.Errorf("next cuts a list with its room %d times", found)
	}
}

// within: all that stands in a function of pick.go.
func within(t *testing.T, name string) []ast.Node {
	t.Helper()
	tree, err := parser.ParseFile(token.NewFileSet(), "pick.go", nil, 0)
	if err != nil {
		t.Fatal(err)
	}
	for _, d := range tree.Decls {
		if f, ok := d.(*ast.FuncDecl); ok && f.Name.Name == name {
			return nodes(f)
		}
	}
	t.Fatalf("pick.go has no function %s", name)
	return nil
}

// nodes: a part of the program, and all of its parts.
func nodes(root ast.Node) []ast.Node {
	var l []ast.Node
	ast.Inspect(root, func(n ast.Node) bool {
		if n != nil {
			l = append(l, n)
		}
		return true
	})
	return l
}

// names: does a part of the program name that?
func names(root ast.Node, name string) bool {
	return slices.ContainsFunc(nodes(root), func(n ast.Node) bool {
		x, ok := n.(*ast.Ident)
		return ok && x.Name == name
	})
}
