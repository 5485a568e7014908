package cache

import (
	"go/ast"
	"go/parser"
	"go/token"
	"testing"

	"oxbow/api"
	"oxbow/budget"
)

// TestWayOfMap: a way of layer 12: blocks stand in a map, out of which they are deleted.
func TestWayOfMap(t *testing.T) {
	c := New(budget.New(1000))
	var blocks map[Key]*block = c.blocks
	if e := c.Put(a, "data"); e != api.OK || len(blocks) != 1 || blocks[a] == nil || blocks[a].data != "data" {
		t.Errorf("behind Put, which is %d, there are %d blocks", e, len(blocks))
	}
	if c.Drop(a.File); len(blocks) != 0 {
		t.Errorf("behind Drop there are %d blocks", len(blocks))
	}
	found := 0
	for _, n := range within(t, "cache.go", "forget") {
		call, ok := n.(*ast.CallExpr)
		if !ok || len(call.Args) != 2 {
			continue
		}
		of, ok := call.Args[0].(*ast.SelectorExpr)
		if f, is := call.Fun.(*ast.Ident); is && ok && f.Name == "delete" && of.Sel.Name == "blocks" {
			found++
		}
	}
	if found != 1 {
		t.Errorf("forget deletes from the map %d times", found)
	}
}

// TestWayOfMeant: a way of layer 12: which of the blocks are meant is told by a closure.
func TestWayOfMeant(t *testing.T) {
	p := fourKept(t, 0)
	asked := []Key{}
	l, bytes := p.oldest(75, func(b *block) bool {
		asked = append(asked, b.key)
		return b.key != a
	})
	if len(l) != 1 || l[0].key != b || bytes != 84 || len(asked) != 2 || asked[0] != a || asked[1] != b {
		t.Errorf("of %v that the closure is asked about %d are meant, of %d bytes", asked, len(l), bytes)
	}
	for _, name := range []string{"Drop", "makeRoom"} {
		found := 0
		for _, n := range within(t, "cache.go", name) {
			call, ok := n.(*ast.CallExpr)
			if !ok || len(call.Args) != 2 {
				continue
			}
			_, lit := call.Args[1].(*ast.FuncLit)
			if f, is := call.Fun.(*ast.SelectorExpr); is && lit && f.Sel.Name == "oldest" {
				found++
			}
		}
		if found != 1 {
			t.Errorf("%s tells by a closure which blocks are meant %d times", name, found)
		}
	}
}

// within: all that stands in a function of a file.
func within(t *testing.T, file, name string) []ast.Node {
	t.Helper()
	tree, err := parser.ParseFile(token.NewFileSet(), file, nil, 0)
	if err != nil {
		t.Fatal(err)
	}
	var l []ast.Node
	for _, d := range tree.Decls {
		if f, ok := d.(*ast.FuncDecl); ok && f.Name.Name == name {
			ast.Inspect(f, func(n ast.Node) bool {
				if n != nil {
					l = append(l, n)
				}
				return true
			})
		}
	}
	if len(l) == 0 {
		t.Fatalf("%s has no function %s", file, name)
	}
	return l
}
