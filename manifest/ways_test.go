package manifest

import (
	"go/ast"
	"go/parser"
	"go/token"
	"maps"
	"slices"
	"testing"

	"oxbow/api"
	"oxbow/disk"
)

// changing are the disk's calls that change.
var changing = []string{"Create", "Append", "Sync", "SyncDir", "Rename", "Remove"}

// TestWayOfCalls: the way of layer 16: calls of the disk are closures and method values, handed to a variadic function.
func TestWayOfCalls(t *testing.T) {
	d := disk.New(100)
	var calls func(...func() api.Errno) api.Errno = first
	wantError(t, "first of no calls", calls(), api.OK)
	wantError(t, "first of calls that are OK", calls(d.SyncDir, func() api.Errno { return d.Create("a") }, d.SyncDir), api.OK)
	wantError(t, "first of calls", calls(d.SyncDir, func() api.Errno { return d.Create("a") }, func() api.Errno { return d.Sync("b") }, func() api.Errno { return d.Create("c") }), api.ErrThere)
	wantList(t, "first", d, "a")
	closures, values := map[string]int{}, map[string]int{}
	for name, body := range functions(t) {
		for _, n := range nodes(body) {
			c, ok := n.(*ast.CallExpr)
			if !ok || !isNamed(c.Fun, "first") && !isNamed(c.Fun, "append") {
				continue
			}
			for _, arg := range c.Args {
				switch x := arg.(type) {
				case *ast.FuncLit:
					closures[name]++
				case *ast.SelectorExpr:
					if x.Sel.Name == "SyncDir" {
						values[name]++
					}
				}
			}
		}
	}
	if want := map[string]int{"Start": 6, "add": 2, "Clean": 1}; !maps.Equal(closures, want) {
		t.Errorf("closures that are handed on: %v, not %v", closures, want)
	}
	if want := map[string]int{"Start": 2, "Clean": 1}; !maps.Equal(values, want) {
		t.Errorf("method values that are handed on: %v, not %v", values, want)
	}
}

// TestNoCallBeside: no call of the disk that changes is made but from within a closure, or by removeNext, which is called from one.
func TestNoCallBeside(t *testing.T) {
	for name, body := range functions(t) {
		within := map[ast.Node]bool{}
		for _, n := range nodes(body) {
			if lit, ok := n.(*ast.FuncLit); ok {
				for _, inner := range nodes(lit) {
					within[inner] = true
				}
			}
		}
		for _, n := range nodes(body) {
			c, ok := n.(*ast.CallExpr)
			if !ok || within[n] || name == "removeNext" {
				continue
			}
			if s, ok := c.Fun.(*ast.SelectorExpr); ok && isNamed(s.X, "d") && slices.Contains(changing, s.Sel.Name) {
				t.Errorf("%s calls %s of the disk beside a closure", name, s.Sel.Name)
			}
		}
	}
}

// functions: the bodies of the layer's functions, by their names.
func functions(t *testing.T) map[string]ast.Node {
	t.Helper()
	m := map[string]ast.Node{}
	for _, file := range []string{"manifest.go", "load.go", "parts.go"} {
		tree, err := parser.ParseFile(token.NewFileSet(), file, nil, 0)
		if err != nil {
			t.Fatal(err)
		}
		for _, decl := range tree.Decls {
			if f, ok := decl.(*ast.FuncDecl); ok {
				m[f.Name.Name] = f.Body
			}
		}
	}
	return m
}

// nodes: a part of the program, and all of its parts.
func nodes(root ast.Node) []ast.Node {
	var l []ast.Node
	ast.Inspect(root, func(n ast.Node) bool {
		if n != nil {
			l = append(l, n)
		}
		return true
	})
	return l
}

func isNamed(x ast.Expr, name string) bool {
	id, ok := x.(*ast.Ident)
	return ok && id.Name == name
}
