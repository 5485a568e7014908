package merge

import (
	"container/heap"
	"go/ast"
	"go/parser"
	"go/token"
	"slices"
	"testing"

	"oxbow/api"
)

// TestWayOfIterator: a way of layer 13: the entries of each key are ranged over by an iterator, which is a closure.
func TestWayOfIterator(t *testing.T) {
	var each func(yield func([]api.Entry) bool) = eachKey([]api.Entry{put("a", 2), put("a", 1), put("b", 1), put("c", 3), put("c", 2)})
	for range 2 {
		var keys []string
		var counts []int
		for l := range each {
			keys, counts = append(keys, l[0].Key), append(counts, len(l))
		}
		if !slices.Equal(keys, []string{"a", "b", "c"}) || !slices.Equal(counts, []int{2, 1, 2}) {
			t.Errorf("the iterator gives %v entries of %q", counts, keys)
		}
	}
	for most := 1; most < 5; most++ {
		calls := 0
		each(func([]api.Entry) bool {
			calls++
			return calls < most
		})
		if calls != min(most, 3) {
			t.Errorf("the iterator gives %d keys where %d were asked for", calls, most)
		}
	}
	if n := count(t, "keys.go", "eachKey", isReturnedClosure); n != 1 {
		t.Errorf("eachKey answers %d closures", n)
	}
	for _, name := range []string{"Visible", "Compact"} {
		if n := count(t, "merge.go", name, isRangeOf("eachKey")); n != 1 {
			t.Errorf("%s ranges over the iterator %d times", name, n)
		}
	}
}

// TestWayOfMap: a way of layer 13: which are kept stands in a map.
func TestWayOfMap(t *testing.T) {
	of := []api.Entry{put("k", 7), put("k", 5), gone("k", 3), gone("k", 1)}
	var kept map[int]struct{} = needed(of, []int64{3, 6})
	wantPlaces(t, "needed", kept, 0, 1, 2)
	dropDead(kept, of, 0)
	wantPlaces(t, "dropDead", kept, 0, 1)
	if n := count(t, "merge.go", "Compact", isIndexOf("kept")); n != 1 {
		t.Errorf("Compact asks the map %d times", n)
	}
}

func wantPlaces(t *testing.T, what string, kept map[int]struct{}, want ...int) {
	t.Helper()
	var l []int
	for i := range kept {
		l = append(l, i)
	}
	if slices.Sort(l); !slices.Equal(l, want) {
		t.Errorf("behind %s kept are %v, not %v", what, l, want)
	}
}

// TestWayOfHeap: a way of layer 13: what a heap gives is told by a type assertion.
func TestWayOfHeap(t *testing.T) {
	s := sourcesOf([][]api.Entry{{put("c", 1)}, nil, {put("a", 1), put("d", 1)}, {put("b", 2)}, {put("a", 1)}})
	var h heap.Interface = s
	var rows []int
	for h.Len() > 0 {
		rows = append(rows, heap.Pop(h).(*source).place)
	}
	if !slices.Equal(rows, []int{2, 4, 3, 0}) {
		t.Errorf("the heap gives the lists %v", rows)
	}
	if n := count(t, "heap.go", "next", isPopAsserted); n != 1 {
		t.Errorf("next asserts what the heap gives %d times", n)
	}
	if n := count(t, "merge.go", "Merge", isCallOf("next")); n != 1 {
		t.Errorf("Merge takes from the heap at %d places", n)
	}
}

// count: how many things of a kind stand in a function of a file.
func count(t *testing.T, file, name string, is func(ast.Node) bool) int {
	t.Helper()
	tree, err := parser.ParseFile(token.NewFileSet(), file, nil, 0)
	if err != nil {
		t.Fatal(err)
	}
	n := 0
	for _, d := range tree.Decls {
		if f, ok := d.(*ast.FuncDecl); ok && f.Name.Name == name {
			ast.Inspect(f, func(x ast.Node) bool {
				if x != nil && is(x) {
					n++
				}
				return true
			})
		}
	}
	return n
}

func isReturnedClosure(x ast.Node) bool {
	r, ok := x.(*ast.ReturnStmt)
	if !ok || len(r.Results) != 1 {
		return false
	}
	_, ok = r.Results[0].(*ast.FuncLit)
	return ok
}

func isRangeOf(name string) func(ast.Node) bool {
	return func(x ast.Node) bool {
		r, ok := x.(*ast.RangeStmt)
		return ok && isCallOf(name)(r.X)
	}
}

func isIndexOf(name string) func(ast.Node) bool {
	return func(x ast.Node) bool {
		i, ok := x.(*ast.IndexExpr)
		if !ok {
			return false
		}
		of, ok := i.X.(*ast.Ident)
		return ok && of.Name == name
	}
}

func isCallOf(name string) func(ast.Node) bool {
	return func(x ast.Node) bool {
		call, ok := x.(*ast.CallExpr)
		if !ok {
			return false
		}
		switch f := call.Fun.(type) {
		case *ast.Ident:
			return f.Name == name
		case *ast.SelectorExpr:
			return f.Sel.Name == name
		}
		return false
	}
}

func isPopAsserted(x ast.Node) bool {
	a, ok := x.(*ast.TypeAssertExpr)
	return ok && a.Type != nil && isCallOf("Pop")(a.X)
}
