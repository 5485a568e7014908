package version

import (
	"go/ast"
	"go/parser"
	"go/token"
	"maps"
	"testing"

	"oxbow/api"
)

// TestWayOfArray: a way of layer 14: levels stand in an array, so that a copy of a version is a version by itself.
func TestWayOfArray(t *testing.T) {
	v := base(t)
	var levels [api.Levels][]Meta = v.Levels
	other := v
	other.take(2, meta(12, "zz", "zz"))
	if len(v.Levels[2]) != 1 || len(levels[2]) != 1 || len(other.Levels[2]) != 2 {
		t.Errorf("of two versions one has %d tables, the other %d", len(v.Levels[2]), len(other.Levels[2]))
	}
}

// TestWayOfMap: a way of layer 14: files that are there stand in a map.
func TestWayOfMap(t *testing.T) {
	v := base(t)
	var there map[int64]fate = v.fates()
	if want := (map[int64]fate{0: stays, 2: stays, 3: stays, 4: stays, 5: stays, 7: stays, 8: stays, 9: stays}); !maps.Equal(there, want) {
		t.Errorf("there are %v, not %v", there, want)
	}
	e := edit([]int64{9, 2}, place(0, 12, "a", "b"), place(2, 14, "c", "d"))
	if !drop(there, e.Drop) || !add(there, e) {
		t.Errorf("an edit that can be isn't taken")
	}
	if want := (map[int64]fate{0: stays, 2: goes, 3: stays, 4: stays, 5: stays, 7: stays, 8: stays, 9: goes, 12: comes, 14: comes}); !maps.Equal(there, want) {
		t.Errorf("behind an edit there are %v, not %v", there, want)
	}
	for _, name := range []string{"drop", "add", "changed"} {
		if n := asked(t, name); n == 0 {
			t.Errorf("%s doesn't ask the map", name)
		}
	}
}

// asked: at how many places a function asks the map of the files that are there.
func asked(t *testing.T, name string) int {
	t.Helper()
	tree, err := parser.ParseFile(token.NewFileSet(), "apply.go", nil, 0)
	if err != nil {
		t.Fatal(err)
	}
	n := 0
	for _, d := range tree.Decls {
		f, ok := d.(*ast.FuncDecl)
		if !ok || f.Name.Name != name {
			continue
		}
		ast.Inspect(f, func(x ast.Node) bool {
			if i, ok := x.(*ast.IndexExpr); ok {
				if of, ok := i.X.(*ast.Ident); ok && of.Name == "there" {
					n++
				}
			}
			return true
		})
	}
	return n
}
