package cache

import (
	"fmt"
	"math"
	"slices"
	"strings"
	"testing"
	"unsafe"

	"oxbow/api"
	"oxbow/budget"
)

// Blocks of three files, by names that are short.
var a, b, c, d, x = Key{1, 0}, Key{1, 1}, Key{2, 0}, Key{2, 7}, Key{3, 0}

// bench is a cache with its budget, and with what a test handed in: by these it is held that the budget is charged just what is kept.
type bench struct {
	*testing.T
	*Cache
	held *budget.Budget
	data map[Key]string
}

func newBench(t *testing.T, limit int64) *bench {
	held := budget.New(limit)
	return &bench{t, New(held), held, map[Key]string{}}
}

// put: a block of so many bytes, which are no other block's.
func (p *bench) put(k Key, bytes int) api.Errno {
	data := strings.Repeat(string(rune('a'+k.File))+string(rune('0'+k.Block)), bytes)[:bytes]
	e := p.Put(k, data)
	if e == api.OK {
		p.data[k] = data
	}
	return e
}

// must: a block is put, and nothing is told against it.
func (p *bench) must(k Key, bytes int) {
	p.Helper()
	if e := p.put(k, bytes); e != api.OK {
		p.Fatalf("Put of %v is %d", k, e)
	}
}

// wantKept: these are kept, the one used last first, with their data, and what they cost is charged.
func (p *bench) wantKept(what string, want ...Key) {
	p.Helper()
	p.wantKeys(what, want)
	// In this row the order is behind it what it is ahead of it.
	for _, k := range slices.Backward(want) {
		if s, ok := p.Get(k); s != p.data[k] || !ok {
			p.Errorf("%s: Get of %v is %q, %t, not %q", what, k, s, ok, p.data[k])
		}
	}
	p.wantKeys(what+", each got", want)
}

func (p *bench) wantKeys(what string, want []Key) {
	p.Helper()
	if l := p.Kept(); !slices.Equal(l, want) {
		p.Fatalf("P12.4: %s: kept are %v, not %v", what, l, want)
	}
	cost := int64(0)
	for _, k := range want {
		cost += 64 + int64(len(p.data[k]))
	}
	if n := p.held.Of(budget.Cache); n != cost {
		p.Fatalf("P12.4: %s: charged are %d, not %d", what, n, cost)
	}
}

// wantPins: a block is pinned so many times.
func (p *bench) wantPins(what string, k Key, want int) {
	p.Helper()
	n := 0
	for p.Unpin(k) {
		n++
	}
	for range n {
		p.Pin(k)
	}
	if n != want {
		p.Errorf("P12.3: %s: %v is pinned %d times, not %d", what, k, n, want)
	}
}

func wantErr(t *testing.T, what string, got, want api.Errno) {
	t.Helper()
	if got != want {
		t.Errorf("%s is %d, not %d", what, got, want)
	}
}

func wantBool(t *testing.T, what string, got, want bool) {
	t.Helper()
	if got != want {
		t.Errorf("%s is %t", what, got)
	}
}

func TestExample(t *testing.T) {
	p := newBench(t, 140)
	p.must(a, 4)
	p.must(b, 6)
	p.wantKept("the example's first two", b, a)
	if n := p.held.Of(budget.Cache); n != 138 {
		t.Errorf("the example's first two are charged %d", n)
	}
	p.must(c, 1)
	p.wantKept("the example's third one", c, b)
}

func TestCost(t *testing.T) {
	for _, n := range []int{0, 1, 2, 63, 64, 100, api.MaxBody, api.MaxFile, 1 << 24} {
		if cost := Cost(strings.Repeat("\xff", n)); cost != 64+int64(n) {
			t.Errorf("P12.1: Cost of %d bytes is %d", n, cost)
		}
	}
}

// TestNone: of a nil cache, and of one of a nil budget, Put is ErrNil, all else nothing; none of it panics.
func TestNone(t *testing.T) {
	for what, none := range map[string]*Cache{"a nil cache": nil, "a cache of a nil budget": New(nil), "a cache that New didn't make": {}} {
		for range 2 {
			for _, k := range []Key{{}, a, {math.MinInt64, math.MinInt}, {math.MaxInt64, math.MaxInt}} {
				wantErr(t, "P12.1: Put, "+what, none.Put(k, "data"), api.ErrNil)
				wantErr(t, "P12.1: Put of nothing, "+what, none.Put(k, ""), api.ErrNil)
				if s, ok := none.Get(k); s != "" || ok {
					t.Errorf("P12.1: Get, %s, is %q, %t", what, s, ok)
				}
				wantBool(t, "P12.1: Pin, "+what, none.Pin(k), false)
				wantBool(t, "P12.1: Unpin, "+what, none.Unpin(k), false)
				none.Drop(k.File)
			}
			for _, n := range []int64{math.MinInt64, -1, 0, 1, 64, math.MaxInt64} {
				wantBool(t, fmt.Sprintf("P12.1: Shrink(%d), %s,", n, what), none.Shrink(n), false)
			}
			if l := none.Kept(); len(l) > 0 {
				t.Errorf("P12.1: Kept, %s, is %v", what, l)
			}
		}
	}
}

func TestNew(t *testing.T) {
	for _, limit := range []int64{math.MinInt64, -1, 0, 63, 64, 1000, api.MaxBudget, math.MaxInt64} {
		p := newBench(t, limit)
		p.wantKept(fmt.Sprintf("P12.1: New of a budget of %d", limit))
		want := api.OK
		if limit < 64 {
			want = api.ErrBudget
		}
		wantErr(t, fmt.Sprintf("P12.2: Put with a budget of %d", limit), p.put(a, 0), want)
	}
}

// TestThere: what is kept isn't put again: nothing is changed by it, not even the order.
func TestThere(t *testing.T) {
	p := newBench(t, 3*64+10)
	p.must(a, 5)
	p.must(b, 0)
	p.must(c, 5)
	p.Pin(b)
	for _, k := range []Key{a, b, c} {
		for _, data := range []string{"", "other", strings.Repeat("x", 1000), p.data[k]} {
			wantErr(t, fmt.Sprintf("P12.2: Put of %d bytes where %v is kept", len(data), k), p.Put(k, data), api.ErrThere)
			p.wantKeys("Put of what is kept", []Key{c, b, a})
		}
	}
	p.wantKept("Put of what is kept", c, b, a)
	p.wantPins("Put of what is kept", b, 1)
}

// TestKeys: a key is its file and its block, both of any number.
func TestKeys(t *testing.T) {
	p := newBench(t, 1<<20)
	files := []int64{math.MinInt64, -1 << 32, -1, 0, 1, 1 << 32, math.MaxInt64}
	blocks := []int{math.MinInt, -1, 0, 1, 1 << 32, math.MaxInt}
	var want []Key
	for _, file := range files {
		for _, block := range blocks {
			k := Key{file, block}
			if s, ok := p.Get(k); s != "" || ok {
				t.Errorf("P12.3: Get of %v ahead of its Put is %q, %t", k, s, ok)
			}
			data := fmt.Sprint(k)
			wantErr(t, "P12.2: Put of "+data, p.Put(k, data), api.OK)
			p.data[k] = data
			want = slices.Insert(want, 0, k)
		}
	}
	p.wantKept("keys of any numbers", want...)
	for _, file := range files {
		p.Drop(file)
		want = slices.DeleteFunc(want, func(k Key) bool { return k.File == file })
		p.wantKept(fmt.Sprintf("P12.3: Drop(%d)", file), want...)
	}
}

// TestData: data is any bytes, of any number.
func TestData(t *testing.T) {
	p := newBench(t, 1<<26)
	var want []Key
	for i, data := range []string{"", "\x00", "\xff\xfe\x00", "a", "äöü", strings.Repeat("\x80", 64), strings.Repeat("xyz", 1<<20)} {
		k := Key{7, i}
		wantErr(t, "P12.2: Put", p.Put(k, data), api.OK)
		p.data[k] = data
		want = slices.Insert(want, 0, k)
	}
	p.wantKept("any data", want...)
}

// TestPutDrops: as few as must be, those used longest ago first, that aren't pinned.
func TestPutDrops(t *testing.T) {
	for _, y := range []struct {
		what string
		left int64 // in the budget ahead of the Put, beside the four that are kept
		pins []Key
		uses []Key
		data int
		e    api.Errno
		want []Key
	}{
		{"just room", 64, nil, nil, 0, api.OK, []Key{x, d, c, b, a}},
		{"room and more", 200, nil, nil, 100, api.OK, []Key{x, d, c, b, a}},
		{"one byte too few", 63, nil, nil, 0, api.OK, []Key{x, d, c, b}},
		{"no room", 0, nil, nil, 0, api.OK, []Key{x, d, c, b}},
		{"just what the first one gives", 0, nil, nil, 10, api.OK, []Key{x, d, c, b}},
		{"one byte more than it gives", 0, nil, nil, 11, api.OK, []Key{x, d, c}},
		{"just what it gives with what is left", 5, nil, nil, 15, api.OK, []Key{x, d, c, b}},
		{"one byte more than that", 5, nil, nil, 16, api.OK, []Key{x, d, c}},
		{"just what two give", 0, nil, nil, 94, api.OK, []Key{x, d, c}},
		{"one byte more than two give", 0, nil, nil, 95, api.OK, []Key{x, d}},
		{"just what three give", 0, nil, nil, 188, api.OK, []Key{x, d}},
		{"one byte more than three give", 0, nil, nil, 189, api.OK, []Key{x}},
		{"just what all give", 0, nil, nil, 292, api.OK, []Key{x}},
		{"one byte more than all give", 0, nil, nil, 293, api.ErrBudget, []Key{d, c, b, a}},
		{"just what all give with what is left", 7, nil, nil, 299, api.OK, []Key{x}},
		{"one byte more than all that", 7, nil, nil, 300, api.ErrBudget, []Key{d, c, b, a}},
		{"far more", 0, nil, nil, 1 << 20, api.ErrBudget, []Key{d, c, b, a}},
		{"the first one was used", 0, nil, []Key{a}, 0, api.OK, []Key{x, a, d, c}},
		{"all were used, the first one last", 0, nil, []Key{d, c, b, a}, 0, api.OK, []Key{x, a, b, c}},
		{"two were used, and two must go", 0, nil, []Key{a, b}, 95, api.OK, []Key{x, b, a}},
		{"the first one is pinned", 0, []Key{a}, nil, 0, api.OK, []Key{x, d, c, a}},
		{"the first two are pinned", 0, []Key{b, a}, nil, 0, api.OK, []Key{x, d, b, a}},
		{"one between is pinned, and two must go", 0, []Key{b}, nil, 11, api.OK, []Key{x, d, b}},
		{"all but the last one are pinned", 0, []Key{a, b, c}, nil, 40, api.OK, []Key{x, c, b, a}},
		{"all but the last one, one byte too many", 0, []Key{a, b, c}, nil, 41, api.ErrBudget, []Key{d, c, b, a}},
		{"all are pinned", 63, []Key{a, b, c, d}, nil, 0, api.ErrBudget, []Key{d, c, b, a}},
		{"all are pinned, and there is room", 64, []Key{a, b, c, d}, nil, 0, api.OK, []Key{x, d, c, b, a}},
		{"all that aren't pinned give just enough", 3, []Key{c}, nil, 201, api.OK, []Key{x, c}},
		{"all that aren't pinned give a byte too few", 3, []Key{c}, nil, 202, api.ErrBudget, []Key{d, c, b, a}},
		{"the one used last is used and not pinned", 0, []Key{a, b, c}, []Key{d}, 0, api.OK, []Key{x, c, b, a}},
	} {
		// The other kinds' bytes stand in the way as those of the cache do.
		for _, others := range []int64{0, 1, 1000} {
			p := fourKept(t, y.left+others)
			p.held.Change(budget.Scan, others)
			p.pinAll(y.pins)
			for _, k := range y.uses {
				p.Get(k)
			}
			wantErr(t, "P12.2: Put, "+y.what, p.put(x, y.data), y.e)
			p.wantKept("P12.2: "+y.what, y.want...)
			p.wantPins(y.what, x, 0)
		}
	}
}

// fourKept: a, b, c, d of 10, 20, 30, 40 bytes, in that row, and so many bytes left.
func fourKept(t *testing.T, left int64) *bench {
	t.Helper()
	p := newBench(t, 4*64+100+left)
	p.must(a, 10)
	p.must(b, 20)
	p.must(c, 30)
	p.must(d, 40)
	p.wantKept("four", d, c, b, a)
	return p
}

func (p *bench) pinAll(l []Key) {
	p.Helper()
	for _, k := range l {
		if !p.Pin(k) {
			p.Errorf("P12.3: Pin of %v is false", k)
		}
	}
}

// TestOthers: what other kinds hold changes between the calls: Put and Shrink go by what is left when they are called.
func TestOthers(t *testing.T) {
	p := fourKept(t, 100)
	reserve := func(k budget.Kind, n int64) {
		t.Helper()
		wantErr(t, "Reserve", p.held.Reserve(k, n), api.OK)
	}
	reserve(budget.Table, 37)
	p.wantKept("other kinds hold more", d, c, b, a)
	wantErr(t, "P12.2: Put of a byte too many", p.put(x, 0), api.OK)
	p.wantKept("Put of a byte too many", x, d, c, b)
	reserve(budget.Scan, 73)
	wantErr(t, "P12.2: Put where nothing is left", p.put(a, 20), api.OK)
	p.wantKept("Put where nothing is left", a, x, d, c)
	p.held.Change(budget.Table, 0)
	p.held.Change(budget.Scan, 0)
	wantErr(t, "P12.2: Put where other kinds gave back", p.put(b, 36), api.OK)
	p.wantKept("Put where other kinds gave back", b, a, x, d, c)
	wantBool(t, "P12.3: Shrink of what is left", p.Shrink(p.held.Left()), true)
	p.wantKept("Shrink of what is left", b, a, x, d, c)
	reserve(budget.Engine, p.held.Left())
	p.Pin(c)
	wantBool(t, "P12.3: Shrink where nothing is left", p.Shrink(1), true)
	p.wantKept("Shrink where nothing is left", b, a, x, c)
	if n := p.held.Left(); n != 104 {
		t.Errorf("P12.3: behind Shrink %d are left", n)
	}
	if p.held.Of(budget.Table) != 0 || p.held.Of(budget.Scan) != 0 || p.held.Of(budget.Engine) != 10 {
		t.Errorf("other kinds hold %d, %d, %d", p.held.Of(budget.Table), p.held.Of(budget.Scan), p.held.Of(budget.Engine))
	}
}

// TestHigh: what a block costs that is dropped isn't charged any more when that of the new one is, and a refused Put charges nothing.
func TestHigh(t *testing.T) {
	p := newBench(t, 1000)
	p.must(a, 936)
	p.must(b, 936)
	wantErr(t, "P12.2: Put above the limit", p.put(c, 937), api.ErrBudget)
	p.wantKept("Put above the limit", b)
	p = newBench(t, 1000)
	p.must(a, 500)
	wantErr(t, "P12.2: Put above the limit", p.put(b, 1000), api.ErrBudget)
	wantErr(t, "P12.2: Put of what is kept", p.put(a, 100), api.ErrThere)
	if n := p.held.High(); n != 564 {
		t.Errorf("P12.4: at most %d were charged", n)
	}
}

func TestGet(t *testing.T) {
	p := fourKept(t, 0)
	for _, y := range []struct {
		k    Key
		want []Key
	}{
		{d, []Key{d, c, b, a}},
		{a, []Key{a, d, c, b}},
		{a, []Key{a, d, c, b}},
		{c, []Key{c, a, d, b}},
		{b, []Key{b, c, a, d}},
		{d, []Key{d, b, c, a}},
	} {
		if s, ok := p.Get(y.k); s != p.data[y.k] || !ok {
			t.Errorf("P12.3: Get of %v is %q, %t", y.k, s, ok)
		}
		p.wantKeys(fmt.Sprintf("P12.3: Get of %v", y.k), y.want)
	}
	for _, k := range []Key{x, {}, {1, 2}, {2, 1}, {0, 1}, {-1, 0}, {1, -1}} {
		if s, ok := p.Get(k); s != "" || ok {
			t.Errorf("P12.3: Get of %v, which isn't kept, is %q, %t", k, s, ok)
		}
		p.wantKeys(fmt.Sprintf("P12.3: Get of %v, which isn't kept,", k), []Key{d, b, c, a})
	}
	p.Shrink(64)
	if s, ok := p.Get(a); s != "" || ok {
		t.Errorf("P12.3: Get of what was dropped is %q, %t", s, ok)
	}
	p.wantKept("Get of what was dropped", d, b, c)
}

func TestPin(t *testing.T) {
	p := fourKept(t, 0)
	for _, k := range []Key{x, {}, {1, 2}, {2, 1}, {0, 1}} {
		wantBool(t, "P12.3: Pin of what isn't kept", p.Pin(k), false)
		wantBool(t, "P12.3: Unpin of what isn't kept", p.Unpin(k), false)
	}
	wantBool(t, "P12.3: Unpin of what isn't pinned", p.Unpin(a), false)
	wantBool(t, "P12.3: Unpin of what isn't pinned, once more", p.Unpin(a), false)
	p.wantKeys("neither is a use", []Key{d, c, b, a})
	for range 3 {
		wantBool(t, "P12.3: Pin", p.Pin(a), true)
		wantBool(t, "P12.3: Pin", p.Pin(b), true)
		p.wantKeys("Pin isn't a use", []Key{d, c, b, a})
	}
	for i := range 3 {
		wantBool(t, "P12.3: Unpin", p.Unpin(a), true)
		p.wantKeys("Unpin isn't a use", []Key{d, c, b, a})
		wantBool(t, "P12.3: Shrink of all that isn't pinned", p.Shrink(74+94+104+1), false)
		wantBool(t, "P12.3: Shrink of more than what isn't pinned", p.Shrink(94+104+1), i == 2)
	}
	p.wantKept("what is pinned once more than unpinned stays", b)
	wantBool(t, "P12.3: Unpin of what was dropped", p.Unpin(a), false)
	wantBool(t, "P12.3: Pin of what was dropped", p.Pin(c), false)
	p.wantPins("pinned three times", b, 3)
}

// TestPinsEnd: a block that is kept once more is pinned no more, however often it was.
func TestPinsEnd(t *testing.T) {
	p := newBench(t, 200)
	p.must(a, 10)
	p.pinAll([]Key{a, a})
	p.Drop(1)
	wantBool(t, "P12.3: Unpin behind Drop", p.Unpin(a), false)
	p.must(a, 20)
	wantBool(t, "P12.3: Unpin of what is kept once more", p.Unpin(a), false)
	wantBool(t, "P12.3: Shrink of all", p.Shrink(200), true)
	p.wantKept("Shrink of all")
}

func TestManyPins(t *testing.T) {
	p := newBench(t, 100)
	p.must(a, 1)
	for range 100000 {
		p.Pin(a)
	}
	p.wantPins("so often", a, 100000)
	p.wantKept("so often", a)
}

func TestDrop(t *testing.T) {
	for _, y := range []struct {
		what string
		file int64
		want []Key
	}{
		{"a file of two blocks that are used longest ago", 1, []Key{x, d, c}},
		{"a file of two blocks between", 2, []Key{x, b, a}},
		{"a file of one block that is used last", 3, []Key{d, c, b, a}},
		{"a file without blocks", 0, []Key{x, d, c, b, a}},
		{"a file without blocks whose number is a block's", 7, []Key{x, d, c, b, a}},
		{"the least file", math.MinInt64, []Key{x, d, c, b, a}},
		{"the greatest file", math.MaxInt64, []Key{x, d, c, b, a}},
	} {
		for _, pins := range [][]Key{nil, {a}, {d, c}, {a, a, b, c, d, x}} {
			p := fourKept(t, 64)
			p.must(x, 0)
			p.pinAll(pins)
			for range 2 {
				p.Drop(y.file)
				p.wantKept("P12.3: Drop of "+y.what, y.want...)
			}
			for _, k := range y.want {
				p.wantPins("what isn't of the file", k, count(pins, k))
			}
			p.dropRest()
		}
	}
}

func count(l []Key, k Key) int {
	return len(l) - len(slices.DeleteFunc(slices.Clone(l), func(y Key) bool { return y == k }))
}

// dropRest: when all files are dropped, all bytes are left, and all can be put again.
func (p *bench) dropRest() {
	p.Helper()
	for _, file := range []int64{2, 3, 1} {
		p.Drop(file)
	}
	p.wantKept("all dropped")
	if p.held.Used() != 0 {
		p.Errorf("P12.4: %d are charged for none", p.held.Used())
	}
	p.must(b, 1)
	p.must(a, 2)
	p.wantKept("put once more", a, b)
}

// TestDropMany: all blocks of a file go, whatever they cost, and however many there are.
func TestDropMany(t *testing.T) {
	p := newBench(t, api.MaxBudget)
	var want []Key
	for i := range 3000 {
		k := Key{int64(i % 3), i / 3}
		wantErr(t, "P12.2: Put", p.Put(k, ""), api.OK)
		if k.File != 1 {
			want = slices.Insert(want, 0, k)
		}
	}
	p.Drop(1)
	p.wantKept("P12.3: Drop of a file of many blocks", want...)
}

func TestShrink(t *testing.T) {
	const all = 4*64 + 100
	for _, y := range []struct {
		what string
		n    int64
		pins []Key
		ok   bool
		want []Key
	}{
		{"the least", math.MinInt64, nil, true, []Key{d, c, b, a}},
		{"one above the least", math.MinInt64 + 1, nil, true, []Key{d, c, b, a}},
		{"below 0", -1, nil, true, []Key{d, c, b, a}},
		{"none", 0, nil, true, []Key{d, c, b, a}},
		{"one", 1, nil, true, []Key{d, c, b, a}},
		{"just what is left", 9, nil, true, []Key{d, c, b, a}},
		{"one byte more", 10, nil, true, []Key{d, c, b}},
		{"just what the first one gives", 9 + 74, nil, true, []Key{d, c, b}},
		{"one byte more than it gives", 9 + 75, nil, true, []Key{d, c}},
		{"just what two give", 9 + 74 + 84, nil, true, []Key{d, c}},
		{"one byte more than two give", 9 + 74 + 85, nil, true, []Key{d}},
		{"just what three give", 9 + all - 104, nil, true, []Key{d}},
		{"one byte more than three give", 9 + all - 103, nil, true, nil},
		{"just all", 9 + all, nil, true, nil},
		{"one byte more than all", 9 + all + 1, nil, false, []Key{d, c, b, a}},
		{"far more", api.MaxBudget, nil, false, []Key{d, c, b, a}},
		{"one less than the greatest", math.MaxInt64 - 1, nil, false, []Key{d, c, b, a}},
		{"the greatest", math.MaxInt64, nil, false, []Key{d, c, b, a}},
		{"one byte more, the first one pinned", 10, []Key{a}, true, []Key{d, c, a}},
		{"one byte more than one gives, past a pinned one", 9 + 75, []Key{b}, true, []Key{d, b}},
		{"all that aren't pinned", 9 + all - 94, []Key{c}, true, []Key{c}},
		{"one byte more than all that aren't pinned", 9 + all - 93, []Key{c}, false, []Key{d, c, b, a}},
		{"what is left, all pinned", 9, []Key{a, b, c, d}, true, []Key{d, c, b, a}},
		{"one byte more, all pinned", 10, []Key{a, b, c, d}, false, []Key{d, c, b, a}},
		{"the least, all pinned", math.MinInt64, []Key{a, b, c, d}, true, []Key{d, c, b, a}},
		{"the greatest, all pinned", math.MaxInt64, []Key{a, b, c, d}, false, []Key{d, c, b, a}},
	} {
		for _, others := range []int64{0, 1, 1000} {
			p := fourKept(t, 9+others)
			p.held.Change(budget.Table, others)
			p.pinAll(y.pins)
			wantBool(t, "P12.3: Shrink, "+y.what, p.Shrink(y.n), y.ok)
			p.wantKept("P12.3: Shrink, "+y.what, y.want...)
			wantBool(t, "P12.3: Shrink once more, "+y.what, p.Shrink(y.n), y.ok)
			p.wantKept("P12.3: Shrink once more, "+y.what, y.want...)
		}
	}
}

// TestShrinkEmpty: of no blocks nothing can be dropped.
func TestShrinkEmpty(t *testing.T) {
	p := newBench(t, 50)
	for _, y := range []struct {
		n  int64
		ok bool
	}{{math.MinInt64, true}, {-1, true}, {0, true}, {50, true}, {51, false}, {math.MaxInt64, false}} {
		wantBool(t, fmt.Sprintf("P12.3: Shrink(%d) of none", y.n), p.Shrink(y.n), y.ok)
	}
	p = newBench(t, 0)
	wantBool(t, "P12.3: Shrink(0) with a budget of none", p.Shrink(0), true)
	wantBool(t, "P12.3: Shrink(1) with a budget of none", p.Shrink(1), false)
	p.wantKept("none")
}

// TestKept: each list is new, and handed out with no room that is another's.
func TestKept(t *testing.T) {
	p := fourKept(t, 0)
	one, two := p.Kept(), p.Kept()
	for i := range one {
		one[i] = x
	}
	_ = append(one, x)
	if !slices.Equal(two, []Key{d, c, b, a}) {
		t.Errorf("P12.4: another list is %v", two)
	}
	p.wantKept("a list was changed", d, c, b, a)
	three := p.Kept()
	p.Get(a)
	p.Drop(2)
	if !slices.Equal(three, []Key{d, c, b, a}) {
		t.Errorf("P12.4: a list is %v behind later calls", three)
	}
	for _, k := range three[len(three):cap(three)] {
		if k != (Key{}) {
			t.Errorf("rule 4: %v lies behind a list", k)
		}
	}
}

// TestMemory: data that is kept is memory of the cache's own, and what Get tells is new each time.
func TestMemory(t *testing.T) {
	p := newBench(t, 1000)
	bytes := []byte("data")
	wantErr(t, "Put", p.Put(a, unsafe.String(&bytes[0], len(bytes))), api.OK)
	bytes[0] = 'X'
	one, _ := p.Get(a)
	two, _ := p.Get(a)
	if one != "data" || two != "data" {
		t.Errorf("rule 4: Get is %q, %q when the memory handed in changes", one, two)
	}
	if unsafe.StringData(one) == unsafe.StringData(two) {
		t.Errorf("rule 4: two answers of Get share memory")
	}
}

// TestApart: two caches of two budgets have nothing to do with one another.
func TestApart(t *testing.T) {
	p, q := newBench(t, 200), newBench(t, 100)
	p.must(a, 1)
	p.must(b, 2)
	q.must(a, 3)
	wantErr(t, "P12.2: Put", q.put(b, 100), api.ErrBudget)
	p.wantKept("P2: the first one", b, a)
	q.wantKept("P2: the second one", a)
	q.Drop(1)
	p.wantKept("P2: the first one", b, a)
	p.Pin(a)
	q.must(a, 4)
	q.wantPins("P2: the second one", a, 0)
	p.wantPins("P2: the first one", a, 1)
}
