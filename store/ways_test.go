package store

import (
	"go/ast"
	"go/parser"
	"go/token"
	"path/filepath"
	"slices"
	"strings"
	"testing"

	"oxbow/api"
	"oxbow/budget"
	"oxbow/disk"
)

// TestWayOfOnce: a way of layer 17: the store is closed once.
func TestWayOfOnce(t *testing.T) {
	r := begun(t)
	r.s.Close()
	wantOK(t, r.s.budget.Reserve(budget.Engine, 7))
	r.s.closing.Do(func() { t.Errorf("Close leaves the once undone") })
	if r.s.Close(); r.s.budget.Of(budget.Engine) != 7 {
		t.Errorf("the second Close does something")
	}
	untouched := begun(t)
	untouched.s.closing.Do(func() {})
	if untouched.s.Close(); untouched.s.closed {
		t.Errorf("Close doesn't ask the once")
	}
}

// TestWayOfReading: a way of layer 17: reading embeds the store, whose methods are promoted.
func TestWayOfReading(t *testing.T) {
	s := begun(t).s
	r := s.read(3)
	if r.Store != s || r.upTo != 3 {
		t.Errorf("read is of another store, or up to %d", r.upTo)
	}
	// The store's methods stand in the reading, and in the walk that embeds this one; what they do is done to the store.
	var promoted, further func() int64 = r.Held, r.walk("", "").Held
	wantOK(t, r.hold(put("a", "bc")), r.hold(gone("def")))
	if s.Held() != s.list.Size()+86 || promoted() != s.Held() || further() != s.Held() {
		t.Errorf("Held is %d, %d, %d", s.Held(), promoted(), further())
	}
	if r.end(); s.Held() != s.list.Size() || s.Budget().Of(budget.Scan) != 0 {
		t.Errorf("behind the end Held is %d", s.Held())
	}
	if r.noted(api.ErrSum); !s.alone {
		t.Errorf("what is noted in a reading isn't in the store")
	}
	for name, methods := range map[string][]string{"newestIn": {"table", "block"}, "step": {"writeParts", "tell", "clean"}} {
		for _, method := range methods {
			if !callsOf(functions(t)["reading."+name], "r", method) || functions(t)["Store."+method] == nil {
				t.Errorf("%s doesn't call the store's %s as its own", name, method)
			}
		}
	}
}

// TestWayOfDefer: a way of layer 17: reading ends by defer, in each call that reads.
func TestWayOfDefer(t *testing.T) {
	begun := 0
	for name, body := range functions(t) {
		if !callsOf(body, "s", "read") {
			continue
		}
		begun++
		if !slices.ContainsFunc(nodes(body), func(n ast.Node) bool {
			d, ok := n.(*ast.DeferStmt)
			return ok && callsOf(d, "r", "end")
		}) {
			t.Errorf("%s begins a reading, which doesn't end by defer", name)
		}
	}
	if begun != 4 {
		t.Errorf("%d functions begin a reading", begun)
	}
	// So it ends also where what is read is too much.
	s := begunIn(t, 400)
	if l, e := s.Scan("", "", Latest, 10); len(l) > 0 || e != api.ErrBudget || s.Budget().Of(budget.Scan) != 0 {
		t.Errorf("Scan is %v, %d; Scan has %d", l, e, s.Budget().Of(budget.Scan))
	}
}

// begunIn: a store with this Limit, in which much is.
func begunIn(t *testing.T, limit int64) *Store {
	t.Helper()
	c := small()
	c.Limit = limit
	s, e := Open(disk.New(10000), c)
	wantOK(t, e)
	for i := range 9 {
		_, e := s.Commit(put(string(rune('a'+i)), strings.Repeat("v", 60)))
		wantOK(t, e)
	}
	return s
}

// TestWayOfItems: a way of layer 17: items come in through a variadic function.
func TestWayOfItems(t *testing.T) {
	s := begun(t).s
	var commit func(...api.Entry) (int64, api.Errno) = s.Commit
	was := s.Seq()
	if seq, e := commit(put("a", "b"), gone("c")); seq != was+2 || e != api.OK {
		t.Errorf("Commit of two items is %d, %d", seq, e)
	}
}

// functions: the bodies of the layer's functions, by their names, those of methods behind their types'.
func functions(t *testing.T) map[string]ast.Node {
	t.Helper()
	files, err := filepath.Glob("*.go")
	if err != nil {
		t.Fatal(err)
	}
	m := map[string]ast.Node{}
	for _, file := range files {
		if strings.HasSuffix(file, "_test.go") {
			continue
		}
		tree, err := parser.ParseFile(token.NewFileSet(), file, nil, 0)
		if err != nil {
			t.Fatal(err)
		}
		for _, decl := range tree.Decls {
			if f, ok := decl.(*ast.FuncDecl); ok {
				m[receiver(f)+f.Name.Name] = f.Body
			}
		}
	}
	return m
}

// receiver: a method's type, and a dot.
func receiver(f *ast.FuncDecl) string {
	if f.Recv == nil {
		return ""
	}
	x := f.Recv.List[0].Type
	if star, ok := x.(*ast.StarExpr); ok {
		x = star.X
	}
	return x.(*ast.Ident).Name + "."
}

// nodes: a part of the program, and all of its parts.
func nodes(root ast.Node) []ast.Node {
	var l []ast.Node
	ast.Inspect(root, func(n ast.Node) bool {
		if n != nil {
			l = append(l, n)
		}
		return true
	})
	return l
}

// callsOf: is a method of what has that name called within?
func callsOf(root ast.Node, of, method string) bool {
	return slices.ContainsFunc(nodes(root), func(n ast.Node) bool {
		call, ok := n.(*ast.CallExpr)
		if !ok {
			return false
		}
		s, ok := call.Fun.(*ast.SelectorExpr)
		if !ok || s.Sel.Name != method {
			return false
		}
		x, ok := s.X.(*ast.Ident)
		return ok && x.Name == of
	})
}
