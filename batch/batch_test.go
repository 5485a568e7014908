package batch

import (
	"encoding/hex"
	"fmt"
	"go/ast"
	"go/parser"
	"go/token"
	"math"
	"slices"
	"strings"
	"testing"
	"unsafe"

	"oxbow/api"
	"oxbow/skip"
)

// TestWays: ways of layer 7: a fault leaves by panic, is recovered in a deferred function literal, and told apart by a type assertion.
func TestWays(t *testing.T) {
	for _, s := range []string{"", "\x01", "\x00\x00"} {
		if _, ok := thrown(func() { (&reader{s: s}).items() }).(fault); !ok {
			t.Errorf("reading %x isn't left by a fault", s)
		}
	}
	if e := caught(func() { panic(fault(api.ErrSum)) }); e != api.ErrSum {
		t.Errorf("a fault is caught as %d", e)
	}
	if e := caught(func() {}); e != api.OK {
		t.Errorf("no fault is caught as %d", e)
	}
	for _, other := range []any{"other", 4, api.ErrForm, error(api.ErrForm)} {
		if got := thrown(func() { caught(func() { panic(other) }) }); got != other {
			t.Errorf("%#v, which is no fault, is %#v behind caught", other, got)
		}
	}
	if n := deferredAssertions(t, "caught"); n != 1 {
		t.Errorf("caught has %d deferred literals that recover and assert", n)
	}
}

// thrown: what a function panics with.
func thrown(do func()) (what any) {
	defer func() { what = recover() }()
	do()
	return nil
}

// deferredAssertions: how many deferred function literals of a function recover, and assert a type.
func deferredAssertions(t *testing.T, name string) int {
	file, err := parser.ParseFile(token.NewFileSet(), "reader.go", nil, 0)
	if err != nil {
		t.Fatal(err)
	}
	found := 0
	ast.Inspect(file, func(n ast.Node) bool {
		if f, ok := n.(*ast.FuncDecl); ok {
			return f.Name.Name == name
		}
		d, ok := n.(*ast.DeferStmt)
		if !ok {
			return true
		}
		recovers, asserts := false, false
		if l, ok := d.Call.Fun.(*ast.FuncLit); ok {
			ast.Inspect(l, func(n ast.Node) bool {
				switch x := n.(type) {
				case *ast.Ident:
					recovers = recovers || x.Name == "recover"
				case *ast.TypeAssertExpr:
					asserts = asserts || x.Type != nil
				}
				return true
			})
		}
		if recovers && asserts {
			found++
		}
		return true
	})
	return found
}

// put, gone: items with nothing more than it takes to be good.
func put(key, value string) api.Entry { return api.Entry{Key: key, Value: value} }
func gone(key string) api.Entry       { return api.Entry{Key: key, Gone: true} }

// from: the bytes that hexadecimal digits say; blanks don't count.
func from(t *testing.T, digits string) string {
	t.Helper()
	b, err := hex.DecodeString(strings.ReplaceAll(digits, " ", ""))
	if err != nil {
		t.Fatal(err)
	}
	return string(b)
}

func wantPut(t *testing.T, what string, items []api.Entry, want string, why api.Errno) {
	t.Helper()
	was := slices.Clone(items)
	if s, e := Put(items); s != want || e != why {
		t.Errorf("P7.1: %s: Put is %x, %d, not %x, %d", what, s, e, want, why)
	}
	if !slices.Equal(items, was) {
		t.Errorf("P7.1: %s: Put changes its items", what)
	}
}

func wantGet(t *testing.T, what, s string, want []api.Entry, why api.Errno) {
	t.Helper()
	if items, e := Get(s); !slices.Equal(items, want) || e != why {
		t.Errorf("P7.2: %s: Get(%.80x) is %#v, %d, not %#v, %d", what, s, items, e, want, why)
	}
}

// key, value: texts as long as they may be.
var (
	key   = strings.Repeat("k", 64)
	value = strings.Repeat("v", 512)
)

// rows are good items with their bytes.
func rows() []struct {
	items []api.Entry
	want  string
} {
	hexKey, hexValue := strings.Repeat("6b", 64), strings.Repeat("76", 512)
	return []struct {
		items []api.Entry
		want  string
	}{
		{nil, "00"},
		{[]api.Entry{}, "00"},
		{[]api.Entry{put("a", "")}, "02  02 61 02 00"},
		{[]api.Entry{put("a", "x")}, "02  02 61 02 02 78"},
		{[]api.Entry{gone("a")}, "02  02 61 00"},
		{[]api.Entry{put("a", "x"), gone("b")}, "04  02 61 02 02 78  02 62 00"},
		{[]api.Entry{gone("b"), put("a", "x")}, "04  02 62 00  02 61 02 02 78"},
		{[]api.Entry{gone("a"), put("a", "x"), put("a", "x"), gone("a")}, "08  02 61 00  02 61 02 02 78  02 61 02 02 78  02 61 00"},
		{[]api.Entry{{Key: "a", Value: "x", Until: 1}}, "02  02 61 04 02 78"},
		{[]api.Entry{{Key: "a", Until: 10}}, "02  02 61 16 00"},
		{[]api.Entry{{Key: "a", Until: 62}}, "02  02 61 7e 00"},
		{[]api.Entry{{Key: "a", Until: 63}}, "02  02 61 80 01 00"},
		{[]api.Entry{{Key: "a", Value: "x", Until: math.MaxInt64 - 1}}, "02  02 61 fe ff ff ff ff ff ff ff ff 01 02 78"},
		{[]api.Entry{{Key: "a", Value: "x", Until: math.MaxInt64 - 2}}, "02  02 61 fc ff ff ff ff ff ff ff ff 01 02 78"},
		{[]api.Entry{put("\x00", "\x00\xff"), gone("\xff\x80")}, "04  02 00 02 04 00 ff  04 ff 80 00"},
		{[]api.Entry{put(key, value)}, "02  80 01" + hexKey + "02 80 08" + hexValue},
		{[]api.Entry{gone(key), put("a", value)}, "04  80 01" + hexKey + "00  02 61 02 80 08" + hexValue},
		{[]api.Entry{put(key[1:], value[1:])}, "02  7e" + hexKey[2:] + "02 fe 07" + hexValue[2:]},
		{slices.Repeat([]api.Entry{gone("a")}, 63), "7e" + strings.Repeat("02 61 00", 63)},
		{slices.Repeat([]api.Entry{put("a", "x")}, 64), "80 01" + strings.Repeat("02 61 02 02 78", 64)},
	}
}

func TestExample(t *testing.T) {
	want := from(t, "04 02 61 02 02 78 02 62 00")
	items := []api.Entry{{Key: "a", Value: "x"}, {Key: "b", Gone: true}}
	wantPut(t, "the example", items, want, api.OK)
	wantGet(t, "the example", want, items, api.OK)
}

func TestBytes(t *testing.T) {
	for i, x := range rows() {
		what := fmt.Sprintf("row %d", i)
		want := from(t, x.want)
		wantPut(t, what, x.items, want, api.OK)
		wantGet(t, what, want, x.items, api.OK)
	}
}

// TestSeq: an item's Seq counts for nothing, and is 0 of one that was read.
func TestSeq(t *testing.T) {
	items := []api.Entry{put("a", "x"), gone("b")}
	want := from(t, "04 02 61 02 02 78 02 62 00")
	for _, seq := range []int64{math.MinInt64, -1, 0, 1, 2, math.MaxInt64} {
		with := slices.Clone(items)
		with[0].Seq, with[1].Seq = seq, -seq
		what := fmt.Sprintf("with the Seq %d", seq)
		wantPut(t, what, with, want, api.OK)
		bad := api.Entry{Seq: seq, Key: key + "k"}
		wantPut(t, what, []api.Entry{bad}, "", api.ErrLong)
		bad.Key = ""
		wantPut(t, what, []api.Entry{bad}, "", api.ErrArg)
	}
}

// bad is an item that may not be put, and its error.
type bad struct {
	item api.Entry
	why  api.Errno
}

func bads() []bad {
	return []bad{
		{api.Entry{}, api.ErrArg},
		{put("", "x"), api.ErrArg},
		{gone(""), api.ErrArg},
		{api.Entry{Key: "a", Until: -1}, api.ErrArg},
		{api.Entry{Key: "a", Until: math.MinInt64}, api.ErrArg},
		{api.Entry{Key: "a", Until: math.MaxInt64}, api.ErrArg},
		{api.Entry{Key: key, Value: value, Until: math.MaxInt64}, api.ErrArg},
		{api.Entry{Key: "a", Gone: true, Value: "x"}, api.ErrArg},
		{api.Entry{Key: "a", Gone: true, Until: 1}, api.ErrArg},
		{api.Entry{Key: "a", Gone: true, Until: -1}, api.ErrArg},
		{api.Entry{Key: "a", Gone: true, Until: math.MaxInt64}, api.ErrArg},
		{put(key+"k", ""), api.ErrLong},
		{gone(key + "k"), api.ErrLong},
		{put(strings.Repeat("k", 1<<17), "x"), api.ErrLong},
		{put("a", value+"v"), api.ErrLong},
		{put("a", strings.Repeat("v", 1<<17)), api.ErrLong},
		// Of one that has several errors layer 6's is told, and of those what is too long.
		{api.Entry{Key: key + "k", Until: math.MaxInt64}, api.ErrLong},
		{api.Entry{Key: "a", Value: value + "v", Until: math.MaxInt64}, api.ErrLong},
		{api.Entry{Key: key + "k", Until: -1}, api.ErrLong},
		{api.Entry{Value: value + "v", Until: -1, Gone: true}, api.ErrLong},
	}
}

func TestRefused(t *testing.T) {
	good := put("g", "x")
	for i, x := range bads() {
		what := fmt.Sprintf("bad %d", i)
		wantPut(t, what+" alone", []api.Entry{x.item}, "", x.why)
		wantPut(t, what+" ahead", []api.Entry{x.item, good}, "", x.why)
		wantPut(t, what+" behind", []api.Entry{good, gone("h"), x.item}, "", x.why)
		for _, at := range []int{0, 31, 63} {
			items := slices.Repeat([]api.Entry{good}, 64)
			items[at] = x.item
			wantPut(t, fmt.Sprintf("%s at %d of 64", what, at), items, "", x.why)
		}
		// Which of several has the error that is told, is the first one.
		for j, y := range bads() {
			wantPut(t, fmt.Sprintf("%s ahead of %d", what, j), []api.Entry{good, x.item, y.item, good}, "", x.why)
		}
	}
}

// TestMany: that they are too many is told ahead of every item's error.
func TestMany(t *testing.T) {
	for _, n := range []int{65, 66, 1000} {
		wantPut(t, "too many", slices.Repeat([]api.Entry{gone("a")}, n), "", api.ErrLong)
		for _, x := range bads() {
			wantPut(t, "too many bad ones", slices.Repeat([]api.Entry{x.item}, n), "", api.ErrLong)
		}
	}
}

// TestCut: of a text that is cut off anywhere, and of one with more behind it, there are no items.
func TestCut(t *testing.T) {
	for i, x := range rows() {
		s := from(t, x.want)
		for at := range len(s) {
			wantGet(t, fmt.Sprintf("row %d up to %d", i, at), s[:at], nil, api.ErrShort)
		}
		for _, more := range []string{"\x00", "\x01", "\x02", "\x80", "\xff", s, "\x02a\x00", strings.Repeat("\xff", 20), strings.Repeat("x", 1<<17)} {
			wantGet(t, fmt.Sprintf("row %d and %.20x", i, more), s+more, nil, api.ErrForm)
		}
	}
}

// TestCount: the errors of the number of items.
func TestCount(t *testing.T) {
	for _, x := range []struct {
		digits string
		why    api.Errno
	}{
		{"", api.ErrShort},
		{"80", api.ErrShort},
		{"ff ff ff ff ff ff ff ff ff", api.ErrShort},
		{"80 00", api.ErrForm},
		{"82 00 02 61 00", api.ErrForm},
		{"ff ff ff ff ff ff ff ff ff ff", api.ErrForm},
		{"ff ff ff ff ff ff ff ff ff 02", api.ErrForm},
		{"01", api.ErrForm}, // -1
		{"03 02 61 00", api.ErrForm},
		{"ff ff ff ff ff ff ff ff ff 01", api.ErrForm}, // the least
		{"fe ff ff ff ff ff ff ff ff 01", api.ErrLong}, // the greatest
		{"82 01", api.ErrLong},                         // 65
		{"82 01 00", api.ErrLong},
		{"82 01" + strings.Repeat("02 61 00", 65), api.ErrLong},
		{"80 80 80 80 20", api.ErrLong},    // 2^32
		{"82 80 80 80 20", api.ErrLong},    // 2^32 + 1
		{"80 80 80 80 80 40", api.ErrLong}, // 2^40
		{"80 01", api.ErrShort},            // 64
		{"80 01 01", api.ErrForm},
		{"7e", api.ErrShort}, // 63
		{"00 00", api.ErrForm},
	} {
		wantGet(t, "the number of items", from(t, x.digits), nil, x.why)
	}
}

// TestItem: the errors of an item, alone, behind a good one, and ahead of what is bad too, as the first one from the left is told.
func TestItem(t *testing.T) {
	k65, v513 := "82 01"+strings.Repeat("6b", 65), "82 08"+strings.Repeat("76", 513)
	for _, x := range []struct {
		digits string
		why    api.Errno
	}{
		// The key.
		{"80 00", api.ErrForm},
		{"ff ff ff ff ff ff ff ff ff ff", api.ErrForm},
		{"01", api.ErrForm},
		{"ff ff ff ff ff ff ff ff ff 01", api.ErrForm},
		{"80 80 08 00 00 00", api.ErrLong},             // 65536
		{"fe ff ff ff ff ff ff ff ff 01", api.ErrLong}, // the greatest
		// The number.
		{"02 61 80 00", api.ErrForm},
		{"02 61 81 00", api.ErrForm},
		{"02 61 ff ff ff ff ff ff ff ff ff 02", api.ErrForm},
		{"02 61 01", api.ErrForm},
		{"02 61 01 02 78", api.ErrForm},
		{"02 61 ff ff ff ff ff ff ff ff ff 01", api.ErrForm}, // the least
		// The value.
		{"02 61 02 80 00", api.ErrForm},
		{"02 61 02 01", api.ErrForm},
		{"02 61 02 80 80 08 00", api.ErrLong},
		{"02 61 04 fe ff ff ff ff ff ff ff ff 01", api.ErrLong},
		// Layer 6's.
		{"00 00", api.ErrArg},
		{"00 02 00", api.ErrArg},
		{"00 02 02 78", api.ErrArg},
		{"00 fe ff ff ff ff ff ff ff ff 01 00", api.ErrArg},
		{k65 + "00", api.ErrLong},
		{k65 + "02 00", api.ErrLong},
		{k65 + "02 02 78", api.ErrLong},
		{"02 61 02" + v513, api.ErrLong},
		{"00 02" + v513, api.ErrLong},
		{"fe ff 07" + strings.Repeat("6b", 65535) + "00", api.ErrLong},
		{"02 61 02 fe ff 07" + strings.Repeat("76", 65535), api.ErrLong},
		// Of a key that layer 6 refuses first what comes behind it in the item.
		{"00 80 00", api.ErrForm},
		{"00 01", api.ErrForm},
		{k65 + "80 00", api.ErrForm},
		{k65 + "01", api.ErrForm},
		{k65 + "02 01", api.ErrForm},
		{"00 02 80 80 08", api.ErrLong},
	} {
		bytes := from(t, x.digits)
		wantGet(t, "an item alone", "\x02"+bytes, nil, x.why)
		wantGet(t, "an item behind a good one", "\x04\x02g\x02\x02x"+bytes, nil, x.why)
		wantGet(t, "an item behind a gone one", "\x04\x02g\x00"+bytes, nil, x.why)
		for _, behind := range []string{"\x80\x00", "\x01", "\x00\x00", "\x80\x80\x08", "\x02a\x01", "\x02a\x00"} {
			wantGet(t, "an item ahead of another one", "\x04"+bytes+behind, nil, x.why)
			wantGet(t, "an item ahead of what is left", "\x02"+bytes+behind, nil, x.why)
		}
		if x.why == api.ErrLong {
			wantGet(t, "an item that is the last of 64", "\x80\x01"+strings.Repeat("\x02g\x00", 63)+bytes, nil, x.why)
		}
	}
}

// TestShortItem: what isn't there of an item is told ahead of layer 6's error of it.
func TestShortItem(t *testing.T) {
	k65, v513 := "82 01"+strings.Repeat("6b", 65), "82 08"+strings.Repeat("76", 513)
	for _, digits := range []string{
		"", "02", "82", "04 61", "fe ff 07", "fe ff 07 61",
		"00", "00 80", "00 02", "00 02 02", "00 02 82",
		k65, k65 + "80", k65 + "02", k65 + "02 02",
		"02 61", "02 61 80", "02 61 02", "02 61 02 80", "02 61 02 04 78",
		"02 61 02" + v513[:len(v513)-2], "02 61 02 fe ff 07 78",
	} {
		wantGet(t, "a short item", "\x02"+from(t, digits), nil, api.ErrShort)
		wantGet(t, "a short item behind another one", "\x04\x02g\x02\x02x"+from(t, digits), nil, api.ErrShort)
	}
}

// TestUntil: what the number tells that isn't 0.
func TestUntil(t *testing.T) {
	for _, until := range []int64{0, 1, 10, 62, 63, 64, 1 << 31, 1 << 53, 1 << 62, math.MaxInt64 - 1} {
		items := []api.Entry{{Key: "a", Value: "x", Until: until}, {Key: "b", Until: until}}
		s, e := Put(items)
		if e != api.OK {
			t.Errorf("P7.1: Put of the Until %d is %d", until, e)
		}
		wantGet(t, fmt.Sprintf("the Until %d", until), s, items, api.OK)
	}
}

func TestNumber(t *testing.T) {
	items := []api.Entry{put("b", "x"), gone("a"), {Key: "b", Seq: 77, Value: "y", Until: 5}, gone("a")}
	for _, seq := range []int64{1, 2, 5, 0, -1, -9, 1 << 40, 1 << 62, math.MinInt64} {
		was := slices.Clone(items)
		want := []api.Entry{
			{Key: "b", Seq: seq, Value: "x"},
			{Key: "a", Seq: seq + 1, Gone: true},
			{Key: "b", Seq: seq + 2, Value: "y", Until: 5},
			{Key: "a", Seq: seq + 3, Gone: true},
		}
		if got := Number(items, seq); !slices.Equal(got, want) {
			t.Errorf("P7.3: Number from %d on is %#v, not %#v", seq, got, want)
		}
		if !slices.Equal(items, was) {
			t.Errorf("P7.3: Number from %d on changes its items", seq)
		}
	}
	for _, none := range [][]api.Entry{nil, {}, items[:0]} {
		if got := Number(none, 7); len(got) != 0 {
			t.Errorf("P7.3: Number of none is %#v", got)
		}
	}
}

// TestNumberAny: items that aren't good, and more of them than a batch has, are numbered too.
func TestNumberAny(t *testing.T) {
	var items []api.Entry
	for range 10 {
		for _, x := range bads() {
			items = append(items, x.item)
		}
	}
	got := Number(items, 3)
	if len(got) != len(items) {
		t.Fatalf("P7.3: %d items are %d", len(items), len(got))
	}
	for i, want := range items {
		want.Seq = int64(3 + i)
		if got[i] != want {
			t.Errorf("P7.3: item %d is %#v, not %#v", i, got[i], want)
		}
	}
	// Nothing is promised of sums that go over, but that no call panics.
	Number(items, math.MaxInt64)
}

func TestSize(t *testing.T) {
	for _, x := range []struct {
		items []api.Entry
		want  int
	}{
		{nil, 0},
		{[]api.Entry{}, 0},
		{[]api.Entry{{}}, 0},
		{[]api.Entry{{Seq: 9, Until: 99}}, 0},
		{[]api.Entry{put("a", "")}, 1},
		{[]api.Entry{put("", "xyz")}, 3},
		{[]api.Entry{put("ab", "xyz")}, 5},
		{[]api.Entry{put("\u00e9", "\u20ac")}, 5},
		{[]api.Entry{gone("abc"), put("ab", "xyz"), put("ab", "xyz")}, 13},
		{[]api.Entry{{Key: "ab", Gone: true, Value: "xyz", Until: -1}}, 5},
		{[]api.Entry{put(key, value), gone(key)}, 640},
		{slices.Repeat([]api.Entry{put(key, value)}, 64), 36864},
		{slices.Repeat([]api.Entry{put("a", strings.Repeat("v", 1<<17))}, 70), 70*131072 + 70},
	} {
		was := slices.Clone(x.items)
		if n := Size(x.items); n != x.want {
			t.Errorf("P7.3: Size of %d items is %d, not %d", len(x.items), n, x.want)
		}
		if !slices.Equal(x.items, was) {
			t.Errorf("P7.3: Size changes its items")
		}
	}
}

// TestBehind: what lies behind the length of the items counts for nothing, and isn't written.
func TestBehind(t *testing.T) {
	all := []api.Entry{put("a", "x"), gone("b"), put("", "bad"), put("c", "z")}
	was := slices.Clone(all)
	items := all[:2]
	wantPut(t, "items with room behind", items, from(t, "04 02 61 02 02 78 02 62 00"), api.OK)
	if n := Size(items); n != 3 {
		t.Errorf("P7.3: Size of items with room behind is %d", n)
	}
	numbered := Number(items, 5)
	if want := []api.Entry{{Key: "a", Seq: 5, Value: "x"}, {Key: "b", Seq: 6, Gone: true}}; !slices.Equal(numbered, want) {
		t.Errorf("P7.3: Number of items with room behind is %#v", numbered)
	}
	_ = append(numbered, put("other", "other"))
	numbered[0].Key = "other"
	if !slices.Equal(all, was) {
		t.Errorf("rule 4: the items are %#v behind all calls", all)
	}
}

// TestMemory: what is answered shares no memory with what was handed in, nor with another answer.
func TestMemory(t *testing.T) {
	bytes := []byte("\x04\x02a\x02\x02x\x02b\x00")
	read, e := Get(unsafe.String(&bytes[0], len(bytes)))
	again, _ := Get(unsafe.String(&bytes[0], len(bytes)))
	if e != api.OK {
		t.Fatalf("P7.2: Get is %d", e)
	}
	texts := []byte("ax")
	item := api.Entry{Key: unsafe.String(&texts[0], 1), Value: unsafe.String(&texts[1], 1)}
	numbered := Number([]api.Entry{item, gone("b")}, 0)
	s, _ := Put([]api.Entry{item, gone("b")})
	was := string(bytes)
	clear(bytes)
	clear(texts)
	if s != was {
		t.Errorf("P7.1: behind a change of what was handed in the bytes are %x", s)
	}
	want := []api.Entry{put("a", "x"), gone("b")}
	for i, got := range [][]api.Entry{read, again} {
		if !slices.Equal(got, want) {
			t.Errorf("P7.2: behind a change of what was handed in the items of Get %d are %#v", i, got)
		}
	}
	want[1].Seq = 1
	if !slices.Equal(numbered, want) {
		t.Errorf("P7.3: behind a change of what was handed in the numbered items are %#v", numbered)
	}
	read[0] = api.Entry{}
	if again[0] != put("a", "x") {
		t.Errorf("P7.2: two answers share their memory")
	}
}

// TestList: what is read and numbered is put into layer 6's list.
func TestList(t *testing.T) {
	s, _ := Put([]api.Entry{put("a", "x"), gone("b"), put("a", "y")})
	items, _ := Get(s)
	l := skip.New()
	for _, e := range Number(items, 1) {
		if why := l.Put(e); why != api.OK {
			t.Errorf("Put of %#v is %d", e, why)
		}
	}
	if e, ok := l.Get("a", 9); !ok || e.Value != "y" || l.Len() != 3 {
		t.Errorf("the list has %#v, %v", e, ok)
	}
}
