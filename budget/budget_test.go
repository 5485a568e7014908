package budget

import (
	"fmt"
	"go/ast"
	"go/parser"
	"go/token"
	"math"
	"reflect"
	"sync/atomic"
	"testing"

	"oxbow/api"
)

// TestWays: ways of layer 5: counts are atomics in the budget's fields, those of the kinds in an array; kinds are numbered by iota.
func TestWays(t *testing.T) {
	b := full(t)
	wantOK(t, b.Release(Engine, 4))
	var used, high *atomic.Int64 = &b.used, &b.high
	var of *[4]atomic.Int64 = &b.kinds
	if used.Load() != 6 || high.Load() != 10 || of[Cache].Load() != 2 || of[Engine].Load() != 0 {
		t.Errorf("the counts are %d, %d, %v", used.Load(), high.Load(), stateOf(b).of)
	}
	if k := reflect.TypeOf(Table); k != reflect.TypeOf(Kinds) || k.Kind() != reflect.Int {
		t.Errorf("the kinds are of type %v", k)
	}
	file, err := parser.ParseFile(token.NewFileSet(), "budget.go", nil, 0)
	if err != nil {
		t.Fatal(err)
	}
	first := ""
	ast.Inspect(file, func(n ast.Node) bool {
		x, ok := n.(*ast.ValueSpec)
		if ok && len(x.Values) == 1 {
			if v, ok := x.Values[0].(*ast.Ident); ok && v.Name == "iota" {
				first = x.Names[0].Name
			}
		}
		return true
	})
	if first != "Table" {
		t.Errorf("by iota %q is numbered first", first)
	}
}

// limits are limits that are handed in, with the budget's own.
var limits = []struct{ limit, own int64 }{
	{math.MinInt64, 0},
	{math.MinInt64 + 1, 0},
	{-1, 0},
	{0, 0},
	{1, 1},
	{2, 2},
	{10, 10},
	{1<<31 - 1, 1<<31 - 1},
	{1 << 31, 1 << 31},
	{1 << 32, 1 << 32},
	{api.MaxBudget - 1, api.MaxBudget - 1},
	{api.MaxBudget, api.MaxBudget},
	{api.MaxBudget + 1, api.MaxBudget},
	{math.MaxInt64 - 1, api.MaxBudget},
	{math.MaxInt64, api.MaxBudget},
}

// kinds are the four that there are; others is what isn't one.
var (
	kinds  = []Kind{Table, Cache, Scan, Engine}
	others = []Kind{math.MinInt, math.MinInt32, -4, -1, Kinds, Kinds + 1, 8, 256, 1 << 16, math.MaxInt32, math.MaxInt}
)

// state is all that can be asked of a budget.
type state struct {
	used, high, left int64
	of               [4]int64
}

func stateOf(b *Budget) state {
	return state{b.Used(), b.High(), b.Left(), [4]int64{b.Of(Table), b.Of(Cache), b.Of(Scan), b.Of(Engine)}}
}

func wantState(t *testing.T, what string, b *Budget, want state) {
	t.Helper()
	if s := stateOf(b); s != want {
		t.Errorf("%s: the budget is %+v, not %+v", what, s, want)
	}
	for _, k := range others {
		if n := b.Of(k); n != 0 {
			t.Errorf("P5.3: %s: Of(%d) is %d", what, k, n)
		}
	}
}

func wantOK(t *testing.T, l ...api.Errno) {
	t.Helper()
	for i, e := range l {
		if e != api.OK {
			t.Errorf("call %d is %d", i, e)
		}
	}
}

// wantRefused: a call is refused by an error, and nothing is changed by it.
func wantRefused(t *testing.T, what string, b *Budget, want api.Errno, call func() api.Errno) {
	t.Helper()
	was := stateOf(b)
	if e := call(); e != want {
		t.Errorf("%s is %d, not %d", what, e, want)
	}
	wantState(t, what, b, was)
}

// full: a budget of 10 bytes that are all held: 1, 2, 3 and 4 for the kinds; High is its limit.
func full(t *testing.T) *Budget {
	t.Helper()
	b := New(10)
	for i, k := range kinds {
		wantOK(t, b.Reserve(k, int64(i+1)))
	}
	return b
}

// calls are those that change, by their names.
func calls(b *Budget) map[string]func(Kind, int64) api.Errno {
	return map[string]func(Kind, int64) api.Errno{"Reserve": b.Reserve, "Release": b.Release, "Change": b.Change}
}

func TestExample(t *testing.T) {
	b := New(10)
	if e := b.Reserve(Table, 7); e != api.OK {
		t.Errorf("Reserve(Table, 7) is %d", e)
	}
	if e := b.Reserve(Cache, 4); e != api.ErrBudget {
		t.Errorf("Reserve(Cache, 4) is %d", e)
	}
	if e := b.Change(Table, 6); e != api.OK {
		t.Errorf("Change(Table, 6) is %d", e)
	}
	if e := b.Reserve(Cache, 4); e != api.OK {
		t.Errorf("Reserve(Cache, 4) is %d behind that", e)
	}
	if n := b.High(); n != 10 {
		t.Errorf("High is %d", n)
	}
}

func TestNew(t *testing.T) {
	for _, x := range limits {
		what := fmt.Sprintf("P5.1: New(%d)", x.limit)
		b := New(x.limit)
		if b == nil {
			t.Fatalf("%s is nil", what)
		}
		wantState(t, what, b, state{left: x.own})
		wantRefused(t, what+": one byte above the limit", b, api.ErrBudget, func() api.Errno { return b.Reserve(Scan, x.own+1) })
		wantRefused(t, what+": a change to one byte above the limit", b, api.ErrBudget, func() api.Errno { return b.Change(Scan, x.own+1) })
		wantOK(t, b.Reserve(Scan, x.own))
		wantState(t, what+", all of it held", b, state{used: x.own, high: x.own, of: [4]int64{2: x.own}})
	}
}

func TestNil(t *testing.T) {
	var b *Budget
	for name, call := range calls(b) {
		for _, k := range append(others, kinds...) {
			for _, n := range []int64{math.MinInt64, -1, 0, 1, math.MaxInt64} {
				if e := call(k, n); e != api.ErrNil {
					t.Errorf("P5.1: %s(%d, %d) of nil is %d", name, k, n, e)
				}
			}
		}
	}
	wantState(t, "P5.1: of nil", b, state{})
}

// TestZero: nothing is promised of a Budget that New didn't make, but that no call of it panics.
func TestZero(t *testing.T) {
	b := &Budget{}
	wantRefused(t, "P1: Reserve", b, api.ErrBudget, func() api.Errno { return b.Reserve(Table, 1) })
	wantState(t, "P1: a zero Budget", b, state{})
}

func TestKinds(t *testing.T) {
	if Table != 0 || Cache != 1 || Scan != 2 || Engine != 3 || Kinds != 4 {
		t.Errorf("the kinds are %d, %d, %d, %d, and %d", Table, Cache, Scan, Engine, Kinds)
	}
	b := New(1000)
	want := state{left: 1000}
	for i, k := range kinds {
		n := int64(10 * (i + 1))
		wantOK(t, b.Reserve(k, n))
		want.of[i] = n
		want.used, want.high, want.left = want.used+n, want.high+n, want.left-n
		wantState(t, fmt.Sprintf("P5.2: %d for kind %d", n, k), b, want)
	}
	for i, k := range kinds {
		wantOK(t, b.Release(k, 3))
		want.of[i] -= 3
		want.used, want.left = want.used-3, want.left+3
		wantState(t, fmt.Sprintf("P5.2: 3 less for kind %d", k), b, want)
	}
	for i, k := range kinds {
		wantOK(t, b.Change(k, 1))
		want.left += want.of[i] - 1
		want.used -= want.of[i] - 1
		want.of[i] = 1
		wantState(t, fmt.Sprintf("P5.2: kind %d holds 1", k), b, want)
	}
}

// TestArguments: a kind that isn't one and a number below 0 are ErrArg, also where the number is above Left.
func TestArguments(t *testing.T) {
	for _, b := range []*Budget{New(0), New(10), full(t), New(math.MaxInt64)} {
		for name, call := range calls(b) {
			for _, k := range others {
				for _, n := range []int64{math.MinInt64, -1, 0, 1, 10, 11, math.MaxInt64} {
					wantRefused(t, fmt.Sprintf("P5.2: %s(%d, %d)", name, k, n), b, api.ErrArg, func() api.Errno { return call(k, n) })
				}
			}
			for _, k := range kinds {
				for _, n := range []int64{math.MinInt64, math.MinInt64 + 1, -api.MaxBudget, -2, -1} {
					wantRefused(t, fmt.Sprintf("P5.2: %s(%d, %d)", name, k, n), b, api.ErrArg, func() api.Errno { return call(k, n) })
				}
			}
		}
	}
}

func TestReserve(t *testing.T) {
	b := New(10)
	wantOK(t, b.Reserve(Cache, 0))
	wantState(t, "P5.2: none", b, state{left: 10})
	wantOK(t, b.Reserve(Cache, 3), b.Reserve(Engine, 2), b.Reserve(Cache, 1))
	wantState(t, "P5.2: 3, 2, 1", b, state{6, 6, 4, [4]int64{0, 4, 0, 2}})
	for _, n := range []int64{5, 6, 10, 11, api.MaxBudget, math.MaxInt64 - 6, math.MaxInt64 - 5, math.MaxInt64} {
		for _, k := range kinds {
			wantRefused(t, fmt.Sprintf("P5.2: Reserve(%d, %d) where 4 are left", k, n), b, api.ErrBudget, func() api.Errno { return b.Reserve(k, n) })
		}
	}
	wantOK(t, b.Reserve(Table, 4))
	wantState(t, "P5.2: just what is left", b, state{10, 10, 0, [4]int64{4, 4, 0, 2}})
	wantRefused(t, "P5.2: Reserve of one more", b, api.ErrBudget, func() api.Errno { return b.Reserve(Table, 1) })
	for _, k := range kinds {
		wantOK(t, b.Reserve(k, 0))
	}
	wantState(t, "P5.2: none, where none are left", b, state{10, 10, 0, [4]int64{4, 4, 0, 2}})
}

func TestRelease(t *testing.T) {
	b := full(t)
	for i, k := range kinds {
		for _, n := range []int64{int64(i + 2), 10, 11, math.MaxInt64} {
			wantRefused(t, fmt.Sprintf("P5.2: Release(%d, %d) where fewer are held for it", k, n), b, api.ErrArg, func() api.Errno { return b.Release(k, n) })
		}
	}
	wantOK(t, b.Release(Scan, 0))
	wantState(t, "P5.2: none", b, state{10, 10, 0, [4]int64{1, 2, 3, 4}})
	wantOK(t, b.Release(Scan, 2))
	wantState(t, "P5.2: some", b, state{8, 10, 2, [4]int64{1, 2, 1, 4}})
	wantOK(t, b.Release(Scan, 1))
	wantState(t, "P5.2: all of a kind", b, state{7, 10, 3, [4]int64{1, 2, 0, 4}})
	wantRefused(t, "P5.2: Release where nothing is held", b, api.ErrArg, func() api.Errno { return b.Release(Scan, 1) })
	wantOK(t, b.Release(Scan, 0), b.Release(Table, 1), b.Release(Cache, 2), b.Release(Engine, 4))
	wantState(t, "P5.2: all", b, state{0, 10, 10, [4]int64{}})
}

func TestChange(t *testing.T) {
	b := full(t)
	for i, k := range kinds {
		for _, n := range []int64{int64(i + 2), 11, api.MaxBudget, math.MaxInt64 - 10, math.MaxInt64} {
			wantRefused(t, fmt.Sprintf("P5.2: Change(%d, %d) of a full budget", k, n), b, api.ErrBudget, func() api.Errno { return b.Change(k, n) })
		}
		wantOK(t, b.Change(k, int64(i+1)))
		wantState(t, fmt.Sprintf("P5.2: Change of kind %d to what it holds", k), b, state{10, 10, 0, [4]int64{1, 2, 3, 4}})
	}
	wantOK(t, b.Change(Engine, 1))
	wantState(t, "P5.2: fewer", b, state{7, 10, 3, [4]int64{1, 2, 3, 1}})
	wantRefused(t, "P5.2: one above what may be", b, api.ErrBudget, func() api.Errno { return b.Change(Cache, 6) })
	wantOK(t, b.Change(Cache, 5))
	wantState(t, "P5.2: just what may be", b, state{10, 10, 0, [4]int64{1, 5, 3, 1}})
	wantOK(t, b.Change(Scan, 0), b.Change(Cache, 0), b.Change(Cache, 0))
	wantState(t, "P5.2: none", b, state{2, 10, 8, [4]int64{1, 0, 0, 1}})
}

// TestHigh: High rises by each call that brings more than ever, and never falls; what is refused doesn't count.
func TestHigh(t *testing.T) {
	b := New(100)
	for i, x := range []struct {
		call func(Kind, int64) api.Errno
		k    Kind
		n    int64
		e    api.Errno
		high int64
	}{
		{b.Reserve, Table, 5, api.OK, 5},
		{b.Release, Table, 5, api.OK, 5},
		{b.Reserve, Cache, 4, api.OK, 5},
		{b.Reserve, Scan, 97, api.ErrBudget, 5},
		{b.Change, Scan, 97, api.ErrBudget, 5},
		{b.Change, Kinds, 50, api.ErrArg, 5},
		{b.Reserve, Scan, 2, api.OK, 6},
		{b.Change, Cache, 9, api.OK, 11},
		{b.Change, Cache, 0, api.OK, 11},
		{b.Change, Engine, 9, api.OK, 11},
		{b.Release, Engine, 10, api.ErrArg, 11},
		{b.Reserve, Engine, 0, api.OK, 11},
		{b.Reserve, Engine, 1, api.OK, 12},
		{b.Change, Scan, 90, api.OK, 100},
		{b.Change, Scan, 0, api.OK, 100},
		{b.Change, Engine, 0, api.OK, 100},
	} {
		if e := x.call(x.k, x.n); e != x.e {
			t.Errorf("P5.2: call %d is %d, not %d", i, e, x.e)
		}
		if n := b.High(); n != x.high {
			t.Errorf("P5.3: behind call %d High is %d, not %d", i, n, x.high)
		}
	}
}

func TestApart(t *testing.T) {
	a, b := New(10), New(20)
	wantOK(t, a.Reserve(Table, 10), b.Reserve(Cache, 5))
	wantState(t, "P2: the first one", a, state{10, 10, 0, [4]int64{10, 0, 0, 0}})
	wantState(t, "P2: the second one", b, state{5, 5, 15, [4]int64{0, 5, 0, 0}})
}
