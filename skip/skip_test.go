package skip

import (
	"fmt"
	"go/ast"
	"go/parser"
	"go/token"
	"math"
	"reflect"
	"slices"
	"strings"
	"testing"
	"unsafe"

	"oxbow/api"
)

// TestWays: ways of layer 6: coins come in through a variadic function; an iterator over entries is a closure; the nodes ahead stand in an array.
func TestWays(t *testing.T) {
	if !reflect.TypeOf(New).IsVariadic() {
		t.Errorf("New isn't variadic")
	}
	l := listOf(t, New(1), put("a", 1), put("c", 1))
	var ahead [api.MaxHeight]*node = l.ahead(put("b", 1))
	for floor, n := range ahead {
		if floor < 2 && (n == nil || n.entry != put("a", 1)) || floor >= 2 && n != nil {
			t.Errorf("ahead on floor %d stands %+v", floor, n)
		}
	}
	file, err := parser.ParseFile(token.NewFileSet(), "skip.go", nil, 0)
	if err != nil {
		t.Fatal(err)
	}
	closures := 0
	ast.Inspect(file, func(n ast.Node) bool {
		if f, ok := n.(*ast.FuncDecl); ok && f.Name.Name != "From" {
			return false
		}
		if r, ok := n.(*ast.ReturnStmt); ok && len(r.Results) == 1 {
			if _, ok := r.Results[0].(*ast.FuncLit); ok {
				closures++
			}
		}
		return true
	})
	if closures != 1 {
		t.Errorf("From answers %d closures", closures)
	}
}

// put, gone: entries with nothing more than it takes to be good.
func put(key string, seq int64) api.Entry  { return api.Entry{Key: key, Seq: seq} }
func gone(key string, seq int64) api.Entry { return api.Entry{Key: key, Seq: seq, Gone: true} }

// listOf: all of them are put into a list, one behind the other.
func listOf(t *testing.T, l *List, entries ...api.Entry) *List {
	t.Helper()
	for i, e := range entries {
		if bad := l.Put(e); bad != api.OK {
			t.Fatalf("P6.2: Put %d, of %+v, is %d", i, e, bad)
		}
	}
	return l
}

// all: what the iterator gives, in a list.
func all(l *List, key string) []api.Entry {
	var a []api.Entry
	for e := range l.From(key) {
		a = append(a, e)
	}
	return a
}

// state is all that can be asked of a list without a key.
type state struct {
	entries    []api.Entry
	len        int
	size, cost int64
}

func stateOf(l *List) state {
	return state{all(l, ""), l.Len(), l.Size(), l.Cost(api.Entry{})}
}

func wantEntries(t *testing.T, what string, got, want []api.Entry) {
	t.Helper()
	if !slices.Equal(got, want) {
		t.Errorf("%s: %+v, not %+v", what, got, want)
	}
}

func wantState(t *testing.T, what string, l *List, want state) {
	t.Helper()
	s := stateOf(l)
	wantEntries(t, what, s.entries, want.entries)
	if s.len != want.len || s.size != want.size || s.cost != want.cost {
		t.Errorf("%s: Len %d, Size %d, Cost %d, not %d, %d, %d", what, s.len, s.size, s.cost, want.len, want.size, want.cost)
	}
	wantTowers(t, what, l)
}

// wantTowers: on each floor stand in order just those nodes whose towers are so high.
func wantTowers(t *testing.T, what string, l *List) {
	t.Helper()
	if l == nil {
		return
	}
	var floors [api.MaxHeight][]*node
	for n := l.first[0]; n != nil; n = n.next[0] {
		if len(n.next) < 1 || len(n.next) > api.MaxHeight {
			t.Fatalf("%s: the tower of %+v is %d high", what, n.entry, len(n.next))
		}
		for floor := range n.next {
			floors[floor] = append(floors[floor], n)
		}
	}
	for floor, nodes := range floors {
		n := l.first[floor]
		for _, want := range nodes {
			if n != want {
				t.Fatalf("%s: on floor %d stands not %+v next", what, floor, want.entry)
			}
			n = n.next[floor]
		}
		if n != nil {
			t.Fatalf("%s: floor %d doesn't end", what, floor)
		}
	}
}

// wantRefused: a Put is refused by an error, and nothing is changed by it.
func wantRefused(t *testing.T, what string, l *List, e api.Entry, want api.Errno) {
	t.Helper()
	was := stateOf(l)
	if got := l.Put(e); got != want {
		t.Errorf("%s: Put is %d, not %d", what, got, want)
	}
	wantState(t, what, l, was)
}

func wantGet(t *testing.T, what string, l *List, key string, seq int64, want api.Entry, there bool) {
	t.Helper()
	if e, ok := l.Get(key, seq); e != want || ok != there {
		t.Errorf("P6.3: %s: Get(%q, %d) is %+v, %v, not %+v, %v", what, key, seq, e, ok, want, there)
	}
}

// goods are entries at the edges of what is good.
func goods() []api.Entry {
	key, value := strings.Repeat("k", 64), strings.Repeat("v", 512)
	return []api.Entry{
		put("a", 1),
		put("a", 2),
		put("a", math.MaxInt64),
		put("\x00", 1),
		put("\xff", 1),
		put(key, 1),
		gone("b", 1),
		gone(key, math.MaxInt64),
		{Key: "c", Seq: 1, Value: "x"},
		{Key: "d", Seq: 1, Value: value},
		{Key: "e", Seq: 1, Value: "\x00", Until: 1},
		{Key: "f", Seq: 1, Until: math.MaxInt64},
		{Key: key[1:], Seq: math.MaxInt64, Value: value, Until: math.MaxInt64},
	}
}

// bads are entries that aren't good, with their errors.
func bads() []struct {
	e    api.Entry
	want api.Errno
} {
	long, much := strings.Repeat("k", 65), strings.Repeat("v", 513)
	return []struct {
		e    api.Entry
		want api.Errno
	}{
		{api.Entry{}, api.ErrArg},
		{put("", 1), api.ErrArg},
		{gone("", 1), api.ErrArg},
		{put("a", 0), api.ErrArg},
		{put("a", -1), api.ErrArg},
		{put("a", math.MinInt64), api.ErrArg},
		{gone("a", 0), api.ErrArg},
		{api.Entry{Key: "a", Seq: 1, Until: -1}, api.ErrArg},
		{api.Entry{Key: "a", Seq: 1, Until: math.MinInt64}, api.ErrArg},
		{api.Entry{Key: "a", Seq: 1, Gone: true, Value: "x"}, api.ErrArg},
		{api.Entry{Key: "a", Seq: 1, Gone: true, Until: 1}, api.ErrArg},
		{api.Entry{Key: "a", Seq: 1, Gone: true, Until: -1}, api.ErrArg},
		{api.Entry{Key: "a", Seq: 1, Gone: true, Value: much[1:]}, api.ErrArg},
		{put(long, 1), api.ErrLong},
		{gone(long, 1), api.ErrLong},
		{put(strings.Repeat("k", 1<<16), 1), api.ErrLong},
		{api.Entry{Key: "a", Seq: 1, Value: much}, api.ErrLong},
		{api.Entry{Key: "a", Seq: 1, Value: strings.Repeat("v", 1<<16)}, api.ErrLong},
		// What is too long is told ahead of what else isn't good.
		{put(long, 0), api.ErrLong},
		{api.Entry{Key: long, Seq: 1, Until: -1}, api.ErrLong},
		{api.Entry{Key: long, Seq: -1, Gone: true, Value: "x", Until: -1}, api.ErrLong},
		{api.Entry{Value: much}, api.ErrLong},
		{api.Entry{Key: "a", Seq: 1, Gone: true, Value: much}, api.ErrLong},
		{api.Entry{Key: "a", Seq: 0, Value: much, Until: -1}, api.ErrLong},
	}
}

func TestExample(t *testing.T) {
	l := New(2)
	if bad := l.Put(api.Entry{Key: "a", Seq: 1, Value: "xyz"}); bad != api.OK {
		t.Errorf("Put is %d", bad)
	}
	if n := l.Size(); n != 40+24+4 {
		t.Errorf("Size is %d", n)
	}
}

func TestGood(t *testing.T) {
	for _, e := range goods() {
		if bad := Good(e); bad != api.OK {
			t.Errorf("P6.1: Good(%+v) is %d", e, bad)
		}
	}
	for _, x := range bads() {
		if bad := Good(x.e); bad != x.want {
			t.Errorf("P6.1: Good(%+v) is %d, not %d", x.e, bad, x.want)
		}
	}
}

// TestLess: of any two of a row in order the earlier one stands ahead; all that isn't Key or Seq doesn't count, nor if an entry is good.
func TestLess(t *testing.T) {
	row := []api.Entry{
		put("", math.MaxInt64), put("", 1), put("", 0), put("", math.MinInt64),
		put("\x00", 9), put("\x00", 8), put("\x00\x00", 9), put("\x01", 1),
		put("A", 1), put("Z", 1),
		put("a", math.MaxInt64), put("a", math.MaxInt64-1), put("a", 10), put("a", 9), put("a", 1), put("a", 0), put("a", -1), put("a", math.MinInt64+1), put("a", math.MinInt64),
		put("a\x00", 1), put("aa", 9), put("aa", 1), put("ab", 9), put("a\xff", 1), put("b", 5), put("b", 4),
		put("z", 1), put("\x7f", 1), put("\x80", 1), put("\xc3\xa9", 1), put("\xff", 7), put("\xff", -7), put("\xff\x00", 7),
		put(strings.Repeat("\xff", 100), 3), put(strings.Repeat("\xff", 100), 2), put(strings.Repeat("\xff", 101), 3),
	}
	for i, a := range row {
		for j, b := range row {
			a, b := a, b
			for range 2 {
				if got := Less(a, b); got != (i < j) {
					t.Errorf("P6.1: Less(%+v, %+v) is %v", a, b, got)
				}
				a.Gone, b.Value, b.Until = true, "x", -5
			}
		}
	}
}

func TestNew(t *testing.T) {
	for _, coins := range [][]int{nil, {}, {0}, {-1}, {3, 4, 5}} {
		what := fmt.Sprintf("P6.2: New(%v)", coins)
		l := New(coins...)
		if l == nil {
			t.Fatalf("%s is nil", what)
		}
		if l.Len() != 0 || l.Size() != 0 || len(all(l, "")) != 0 {
			t.Errorf("%s isn't empty", what)
		}
		wantGet(t, what, l, "", math.MaxInt64, api.Entry{}, false)
		wantGet(t, what, l, "a", math.MaxInt64, api.Entry{}, false)
		wantGet(t, what, l, "a", 0, api.Entry{}, false)
	}
}

func TestNil(t *testing.T) {
	var l *List
	for _, e := range goods() {
		if bad := l.Put(e); bad != api.ErrNil {
			t.Errorf("P6.2: Put of nil is %d", bad)
		}
		if n := l.Cost(e); n != 0 {
			t.Errorf("P6.4: Cost of nil is %d", n)
		}
		wantGet(t, "of nil", l, e.Key, e.Seq, api.Entry{}, false)
	}
	for _, x := range bads() {
		if bad := l.Put(x.e); bad != api.ErrNil {
			t.Errorf("P6.2: Put of nil is %d, of %+v", bad, x.e)
		}
		if n := l.Cost(x.e); n != 0 {
			t.Errorf("P6.4: Cost of nil is %d", n)
		}
	}
	for _, key := range []string{"", "a", "\xff"} {
		wantEntries(t, "P6.3: From of nil", all(l, key), nil)
	}
	wantState(t, "P6.4: of nil", l, state{})
}

// TestZero: nothing is promised of a List that New didn't make, but that no call of it panics.
func TestZero(t *testing.T) {
	l := listOf(t, &List{}, put("b", 1), put("a", 1), put("b", 2))
	wantState(t, "P1: a zero List", l, state{[]api.Entry{put("a", 1), put("b", 2), put("b", 1)}, 3, 3 * 49, 48})
}

// heights are coins with the heights that they give, one behind the other.
var heights = []struct {
	coins   []int
	heights []int64
}{
	{nil, []int64{1, 1, 1, 1, 1}},
	{[]int{0}, []int64{1, 1, 1}},
	{[]int{1}, []int64{2, 2, 2}},
	{[]int{7}, []int64{8, 8}},
	{[]int{8}, []int64{1, 1}},
	{[]int{-1}, []int64{1, 1}},
	{[]int{-2}, []int64{2, 2}},
	{[]int{-8}, []int64{8, 8}},
	{[]int{-9}, []int64{1, 1}},
	{[]int{1, 2, 3}, []int64{2, 3, 4, 2, 3, 4, 2}},
	{[]int{0, -1, 1, -2, 2, -3}, []int64{1, 1, 2, 2, 3, 3, 1, 1, 2}},
	{[]int{6, 7, 8, 9, 15, 16, 17, 100}, []int64{7, 8, 1, 2, 8, 1, 2, 5, 7}},
	{[]int{-7, -8, -9, -10, -16, -17, -18, -100}, []int64{7, 8, 1, 2, 8, 1, 2, 4, 7}},
	{[]int{math.MaxInt, math.MinInt, math.MaxInt - 1, math.MinInt + 1, math.MaxInt - 7, math.MinInt + 7, math.MaxInt - 8, math.MinInt + 8}, []int64{8, 8, 7, 7, 1, 1, 8, 8, 8}},
	{[]int{math.MaxInt32, math.MinInt32, math.MaxInt32 + 1, math.MinInt32 - 1, 1 << 40, 1<<40 + 5, 255, 256, 260}, []int64{8, 8, 1, 1, 1, 6, 8, 1, 5, 8}},
}

func TestHeights(t *testing.T) {
	for _, x := range heights {
		what := fmt.Sprintf("coins %v", x.coins)
		coins := slices.Clone(x.coins)
		l := New(coins...)
		if !slices.Equal(coins, x.coins) {
			t.Errorf("P6.2: %s are %v behind New", what, coins)
		}
		for i := range coins {
			coins[i] = 3 - coins[i]
		}
		size := int64(0)
		for i, h := range x.heights {
			e := put(string(rune('a'+i)), 1)
			hold := 40 + 8*h + 1
			if n := l.Cost(e); n != hold {
				t.Errorf("P6.4: %s: Cost of entry %d is %d, not %d", what, i, n, hold)
			}
			listOf(t, l, e)
			size += hold
			if n := l.Size(); n != size {
				t.Errorf("P6.4: %s: behind entry %d Size is %d, not %d", what, i, n, size)
			}
			wantTowers(t, what, l)
		}
	}
}

// TestRefused: a refused Put changes nothing and takes no coin, whatever there is.
func TestRefused(t *testing.T) {
	for _, l := range []*List{
		New(),
		New(0, 1, 2, 3),
		listOf(t, New(5, 6, -7), put("a", 1), put("b", 3)),
		listOf(t, New(), goods()...),
		listOf(t, New(7, 3, 1, -3, 0), goods()...),
	} {
		for _, x := range bads() {
			wantRefused(t, fmt.Sprintf("P6.2: of %+v", x.e), l, x.e, x.want)
		}
		for _, e := range stateOf(l).entries {
			wantRefused(t, fmt.Sprintf("P6.2: %+v is there", e), l, e, api.ErrThere)
			for _, other := range []api.Entry{
				put(e.Key, e.Seq), gone(e.Key, e.Seq),
				{Key: e.Key, Seq: e.Seq, Value: "other"},
				{Key: e.Key, Seq: e.Seq, Until: 77},
			} {
				wantRefused(t, fmt.Sprintf("P6.2: %+v has what is there as Key and Seq", other), l, other, api.ErrThere)
			}
			for _, other := range []api.Entry{
				{Key: e.Key, Seq: e.Seq, Until: -1},
				{Key: e.Key, Seq: e.Seq, Gone: true, Value: "x"},
			} {
				wantRefused(t, fmt.Sprintf("P6.2: %+v isn't good, and there", other), l, other, api.ErrArg)
			}
			wantRefused(t, "P6.2: a value that is too long", l, api.Entry{Key: e.Key, Seq: e.Seq, Value: strings.Repeat("v", 513)}, api.ErrLong)
		}
	}
}

// TestCoins: refused Puts between others take no coin.
func TestCoins(t *testing.T) {
	l := New(0, 1, 2, 3)
	for i, h := range []int64{1, 2, 3, 4, 1, 2} {
		e := put("a", int64(i+1))
		for range 3 {
			wantRefused(t, "P6.2: not good", l, put("", 1), api.ErrArg)
		}
		if n := l.Cost(e); n != 40+8*h+1 {
			t.Errorf("P6.2: the Cost of entry %d is %d", i, n)
		}
		listOf(t, l, e)
		for range 3 {
			wantRefused(t, "P6.2: there", l, e, api.ErrThere)
		}
	}
	if n := l.Size(); n != 6*41+8*13 {
		t.Errorf("P6.2: Size is %d", n)
	}
}

// TestOrder: whatever the row in which entries are put, they stand in order.
func TestOrder(t *testing.T) {
	want := []api.Entry{
		put("\x00", 1), put("a", math.MaxInt64), put("a", 10), gone("a", 9), put("a", 1),
		put("a\x00", 5), put("aa", 2), gone("ab", 8), put("ab", 3), put("b", 100), put("\x80", 1), put("\xff", 2), put("\xff", 1),
	}
	rising := slices.Clone(want)
	falling := slices.Clone(want)
	slices.Reverse(falling)
	var mixed []api.Entry
	for i := range want {
		mixed = append(mixed, want[i*5%len(want)])
	}
	for _, coins := range [][]int{nil, {0}, {7}, {0, 1, 0, 2, 0, 1, 0, 3}, {-5, 9, 2}} {
		for i, row := range [][]api.Entry{rising, falling, mixed} {
			what := fmt.Sprintf("P6.3: coins %v, row %d", coins, i)
			l := listOf(t, New(coins...), row...)
			wantEntries(t, what, all(l, ""), want)
			wantTowers(t, what, l)
			for j, e := range want {
				wantGet(t, what, l, e.Key, e.Seq, e, true)
				first := slices.IndexFunc(want, func(x api.Entry) bool { return x.Key == e.Key })
				wantEntries(t, what, all(l, e.Key), want[first:])
				wantEntries(t, what, all(l, e.Key+"\x00"), slices.DeleteFunc(slices.Clone(want[j:]), func(x api.Entry) bool { return x.Key == e.Key }))
			}
			wantEntries(t, what, all(l, "\xff\x00"), nil)
			wantEntries(t, what, all(l, strings.Repeat("\xff", 1<<17)), nil)
		}
	}
}

func TestGet(t *testing.T) {
	for _, coins := range [][]int{nil, {3}, {7, 0, 0}, {-4, 1, 6, 0}} {
		what := fmt.Sprintf("coins %v", coins)
		last := api.Entry{Key: "b", Seq: math.MaxInt64, Value: "last", Until: 4}
		five := api.Entry{Key: "b", Seq: 5, Value: "five", Until: 9}
		l := listOf(t, New(coins...), five, put("a", 6), gone("b", 3), put("b\x00", 4), last, put("b", 1), put("c", 2))
		for _, x := range []struct {
			seq   int64
			want  api.Entry
			there bool
		}{
			{math.MinInt64, api.Entry{}, false},
			{-1, api.Entry{}, false},
			{0, api.Entry{}, false},
			{1, put("b", 1), true},
			{2, put("b", 1), true},
			{3, gone("b", 3), true},
			{4, gone("b", 3), true},
			{5, five, true},
			{6, five, true},
			{math.MaxInt64 - 1, five, true},
			{math.MaxInt64, last, true},
		} {
			wantGet(t, what, l, "b", x.seq, x.want, x.there)
		}
		for _, key := range []string{"", "\x00", "A", "a\x00", "aa", "b\x00\x00", "ba", "bb", "d", "\xff", strings.Repeat("b", 64), strings.Repeat("b", 1<<17)} {
			for _, seq := range []int64{math.MinInt64, -1, 0, 1, 4, math.MaxInt64} {
				wantGet(t, what, l, key, seq, api.Entry{}, false)
			}
		}
		wantGet(t, what, l, "a", 5, api.Entry{}, false)
		wantGet(t, what, l, "a", 6, put("a", 6), true)
		wantGet(t, what, l, "b\x00", 4, put("b\x00", 4), true)
		wantGet(t, what, l, "c", 1, api.Entry{}, false)
		wantGet(t, what, l, "c", math.MaxInt64, put("c", 2), true)
	}
}

// TestEnd: the iterator ends where the loop does: nothing is given behind a false.
func TestEnd(t *testing.T) {
	l := listOf(t, New(1, 0), put("a", 1), put("b", 2), put("b", 1), put("c", 1), put("d", 1))
	for most := range 6 {
		calls := 0
		l.From("a")(func(api.Entry) bool {
			calls++
			return calls < most
		})
		if want := max(most, 1); calls != min(want, 5) {
			t.Errorf("P6.3: %d entries were given where %d were asked for", calls, want)
		}
	}
	var got []api.Entry
	for e := range l.From("b") {
		got = append(got, e)
		if e.Key == "c" {
			break
		}
	}
	wantEntries(t, "P6.3: up to a break", got, []api.Entry{put("b", 2), put("b", 1), put("c", 1)})
	first := func() api.Entry {
		for e := range l.From("bb") {
			return e
		}
		return api.Entry{}
	}
	if e := first(); e != put("c", 1) {
		t.Errorf("P6.3: from \"bb\" on the first one is %+v", e)
	}
	wantEntries(t, "P6.3: behind loops that were ended", all(l, "c"), []api.Entry{put("c", 1), put("d", 1)})
}

// TestAgain: an iterator may be gone through again, also within itself, and the list be asked meanwhile; each time it gives what is there then.
func TestAgain(t *testing.T) {
	l := listOf(t, New(2, 0, 1), put("a", 1), put("b", 1), put("c", 1))
	from := l.From("b")
	for range 3 {
		wantEntries(t, "P6.3: again", slices.Collect(from), []api.Entry{put("b", 1), put("c", 1)})
	}
	pairs := ""
	for a := range from {
		for b := range from {
			if e, ok := l.Get(b.Key, 1); !ok || e != b {
				t.Errorf("P6.3: Get within a loop is %+v, %v", e, ok)
			}
			pairs += a.Key + b.Key + " "
		}
	}
	if pairs != "bb bc cb cc " {
		t.Errorf("P6.3: a loop within itself gives %q", pairs)
	}
	listOf(t, l, put("b", 2), put("aa", 1), put("d", 1))
	wantEntries(t, "P6.3: behind a Put", slices.Collect(from), []api.Entry{put("b", 2), put("b", 1), put("c", 1), put("d", 1)})
}

// TestCost: what an entry would hold doesn't hang on whether it may be put.
func TestCost(t *testing.T) {
	there := api.Entry{Key: "ab", Seq: 1, Value: "xyz"}
	for _, x := range []struct {
		l    *List
		each int64
	}{
		{New(), 48},
		{New(7), 104},
		{New(-3, 0), 64},
		{listOf(t, New(7, 2), there), 64},
		{listOf(t, New(), there), 48},
	} {
		for _, e := range goods() {
			wantCost(t, x.l, e, x.each)
		}
		for _, bad := range bads() {
			wantCost(t, x.l, bad.e, x.each)
		}
		wantCost(t, x.l, there, x.each)
	}
}

// wantCost: an entry would hold so many bytes beside its texts, and that changes nothing.
func wantCost(t *testing.T, l *List, e api.Entry, each int64) {
	t.Helper()
	want := each + int64(len(e.Key)) + int64(len(e.Value))
	for range 2 {
		if n := l.Cost(e); n != want {
			t.Errorf("P6.4: Cost(%+v) is %d, not %d", e, n, want)
		}
	}
}

// TestMemory: neither keeps a list the memory of what is handed in, nor does it hand its own out.
func TestMemory(t *testing.T) {
	bytes := []byte("keyvalfrom")
	key, value, from := unsafe.String(&bytes[0], 3), unsafe.String(&bytes[3], 3), unsafe.String(&bytes[6], 4)
	l := listOf(t, New(), api.Entry{Key: key, Seq: 1, Value: value})
	rest := l.From(from)
	copy(bytes, "zzzzzzzzzz")
	want := api.Entry{Key: "key", Seq: 1, Value: "val"}
	wantEntries(t, "P6.3: behind a change of what was handed in", slices.Collect(rest), []api.Entry{want})
	wantGet(t, "behind a change of what was handed in", l, "key", 1, want, true)
	var answers []api.Entry
	for range 2 {
		e, _ := l.Get("key", 1)
		answers = append(answers, e, all(l, "")[0])
	}
	seen := map[*byte]bool{}
	for _, e := range answers {
		for _, s := range []string{e.Key, e.Value} {
			if seen[unsafe.StringData(s)] {
				t.Errorf("P6.3: two answers share the memory of %q", s)
			}
			seen[unsafe.StringData(s)] = true
		}
	}
}

func TestApart(t *testing.T) {
	coins := []int{1, 2}
	a, b := New(coins...), New(coins...)
	listOf(t, a, put("a", 1), put("b", 1), put("c", 1))
	listOf(t, b, put("a", 1))
	wantState(t, "P2: the first one", a, state{[]api.Entry{put("a", 1), put("b", 1), put("c", 1)}, 3, 3*41 + 8*7, 64})
	wantState(t, "P2: the second one", b, state{[]api.Entry{put("a", 1)}, 1, 41 + 16, 64})
}
