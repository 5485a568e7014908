package version

import (
	"encoding/hex"
	"fmt"
	"math"
	"slices"
	"strings"
	"testing"
	"unsafe"

	"oxbow/api"
)

const (
	least    = math.MinInt64
	greatest = math.MaxInt64
)

// meta: a table whose size is told by its file.
func meta(file int64, lo, hi string) Meta { return Meta{file, file * 10, lo, hi} }

func place(level int, file int64, lo, hi string) Place { return Place{level, meta(file, lo, hi)} }

// stranger stands behind the length of each list of tables that a test hands in.
var stranger = Meta{77, 77, "stranger", "stranger"}

// roomy: a copy of a list, with elements behind its length that would be seen, if they were read, and missed, if they were written on.
func roomy[T any](l []T, other T) []T {
	all := append(slices.Clone(l), other, other, other)
	return all[:len(l)]
}

func roomyVersion(v Version) Version {
	for level, l := range v.Levels {
		v.Levels[level] = roomy(l, stranger)
	}
	return v
}

func roomyEdit(e Edit) Edit {
	e.Add, e.Drop = roomy(e.Add, Place{2, stranger}), roomy(e.Drop, 77)
	return e
}

// wantKept: a list that was handed in is as it was, also behind its length.
func wantKept[T comparable](t *testing.T, what string, handed, was []T, other T) {
	t.Helper()
	if !slices.Equal(handed, was) || !slices.Equal(handed[len(was):len(was)+3], []T{other, other, other}) {
		t.Errorf("%s changes what was handed in: %v, not %v", what, handed, was)
	}
}

func wantVersionKept(t *testing.T, what string, handed, was Version) {
	t.Helper()
	for level, l := range was.Levels {
		wantKept(t, what, handed.Levels[level], l, stranger)
	}
	if handed.Log != was.Log || handed.Next != was.Next || handed.Seq != was.Seq {
		t.Errorf("%s changes the numbers of its version", what)
	}
}

func wantEditKept(t *testing.T, what string, handed, was Edit) {
	t.Helper()
	wantKept(t, what, handed.Add, was.Add, Place{2, stranger})
	wantKept(t, what, handed.Drop, was.Drop, 77)
	if handed.Log != was.Log || handed.Next != was.Next || handed.Seq != was.Seq {
		t.Errorf("%s changes the numbers of its edit", what)
	}
}

func sameVersion(a, b Version) bool {
	for level := range a.Levels {
		if !slices.Equal(a.Levels[level], b.Levels[level]) {
			return false
		}
	}
	return a.Log == b.Log && a.Next == b.Next && a.Seq == b.Seq
}

func sameEdit(a, b Edit) bool {
	return slices.Equal(a.Add, b.Add) && slices.Equal(a.Drop, b.Drop) && a.Log == b.Log && a.Next == b.Next && a.Seq == b.Seq
}

// said: a version or an edit in few words, the first ones of many.
func said(what any) string { return fmt.Sprintf("%.2000s", fmt.Sprintf("%+v", what)) }

// wantApply: Apply tells this version, a second time too, and changes nothing that was handed in; what is done to its answer is done to nothing else.
func wantApply(t *testing.T, what string, v Version, e Edit, want Version, why api.Errno) {
	t.Helper()
	handed, edit := roomyVersion(v), roomyEdit(e)
	for range 2 {
		got, errno := handed.Apply(edit)
		if !sameVersion(got, want) || errno != why {
			t.Errorf("P14.1: %s: Apply of %s to %s is %s, %d, not %s, %d", what, said(e), said(v), said(got), errno, said(want), why)
		}
		for _, l := range got.Levels {
			for i := range l {
				l[i] = Meta{-7, -7, "written", "written"}
			}
			clear(l[len(l):cap(l)])
		}
		wantVersionKept(t, "P14.1: Apply", handed, v)
		wantEditKept(t, "P14.1: Apply", edit, e)
	}
}

func wantRefused(t *testing.T, what string, v Version, e Edit) {
	t.Helper()
	wantApply(t, what, v, e, Version{}, api.ErrLevel)
}

// made: the version that an edit makes out of none.
func made(t *testing.T, e Edit) Version {
	t.Helper()
	v, errno := Version{}.Apply(e)
	if errno != api.OK {
		t.Fatalf("P14.1: %s isn't taken: %d", said(e), errno)
	}
	return v
}

// base: a version with tables in all levels; their order in the edit isn't theirs.
func base(t *testing.T) Version {
	t.Helper()
	return made(t, Edit{
		Add: []Place{
			place(1, 5, "d", "f"), place(0, 4, "b", "b"), place(1, 3, "a", "b"), place(2, 2, "a", "z"),
			place(0, 9, "a", "c"), place(3, 0, "", "\xff\xff"), place(1, 8, "h", "h"), place(0, 7, "a", "c"),
		},
		Log: 6, Next: 11, Seq: 70,
	})
}

func TestBase(t *testing.T) {
	want := Version{
		Levels: [4][]Meta{
			{meta(9, "a", "c"), meta(7, "a", "c"), meta(4, "b", "b")},
			{meta(3, "a", "b"), meta(5, "d", "f"), meta(8, "h", "h")},
			{meta(2, "a", "z")},
			{meta(0, "", "\xff\xff")},
		},
		Log: 6, Next: 11, Seq: 70,
	}
	if v := base(t); !sameVersion(v, want) {
		t.Errorf("P14.1: made is %s, not %s", said(v), said(want))
	}
}

func TestExample(t *testing.T) {
	a, b := Meta{3, 9, "a", "c"}, Meta{4, 9, "b", "b"}
	e := Edit{Add: []Place{{0, a}, {0, b}}, Next: 5}
	wantApply(t, "the example", Version{}, e, Version{Levels: [4][]Meta{{b, a}}, Next: 5}, api.OK)
	wantRefused(t, "the example in level 1", Version{}, Edit{Add: []Place{{1, a}, {1, b}}, Next: 5})
}

func TestApplyNumbers(t *testing.T) {
	for _, x := range []struct {
		was, e [3]int64
		taken  bool
	}{
		{[3]int64{0, 0, 0}, [3]int64{0, 0, 0}, true},
		{[3]int64{0, 0, 0}, [3]int64{0, 0, 9}, true},
		{[3]int64{0, 0, 0}, [3]int64{0, 1, 0}, true},
		{[3]int64{0, 0, 0}, [3]int64{greatest - 1, greatest, greatest}, true},
		{[3]int64{0, 0, 0}, [3]int64{1, 0, 0}, false},
		{[3]int64{0, 0, 0}, [3]int64{1, 1, 0}, false},
		{[3]int64{0, 0, 0}, [3]int64{2, 1, 0}, false},
		{[3]int64{0, 0, 0}, [3]int64{greatest, greatest, 0}, false},
		{[3]int64{0, 0, 0}, [3]int64{-1, 0, 0}, false},
		{[3]int64{0, 0, 0}, [3]int64{-2, -1, 0}, false},
		{[3]int64{0, 0, 0}, [3]int64{-1, -1, 0}, false},
		{[3]int64{0, 0, 0}, [3]int64{0, -1, 0}, false},
		{[3]int64{0, 0, 0}, [3]int64{0, 0, -1}, false},
		{[3]int64{0, 0, 0}, [3]int64{least, least, least}, false},
		{[3]int64{0, 0, 0}, [3]int64{least, greatest, greatest}, false},
		{[3]int64{0, 0, 5}, [3]int64{0, 0, 5}, true},
		{[3]int64{0, 0, 5}, [3]int64{0, 0, 4}, false},
		{[3]int64{0, 3, 5}, [3]int64{0, 3, 5}, true},
		{[3]int64{0, 3, 5}, [3]int64{0, 0, 5}, false},
		{[3]int64{4, 9, 5}, [3]int64{4, 9, 5}, true},
		{[3]int64{4, 9, 5}, [3]int64{5, 10, 6}, true},
		{[3]int64{4, 9, 5}, [3]int64{8, 9, 5}, true},
		{[3]int64{4, 9, 5}, [3]int64{9, 9, 5}, false},
		{[3]int64{4, 9, 5}, [3]int64{10, 9, 5}, false},
		{[3]int64{4, 9, 5}, [3]int64{9, 10, 5}, true},
		{[3]int64{4, 9, 5}, [3]int64{3, 9, 5}, false},
		{[3]int64{4, 9, 5}, [3]int64{4, 8, 5}, false},
		{[3]int64{4, 9, 5}, [3]int64{4, 9, 4}, false},
		{[3]int64{4, 9, 5}, [3]int64{3, 10, 6}, false},
		{[3]int64{4, 9, 5}, [3]int64{5, 8, 6}, false},
		{[3]int64{4, 9, 5}, [3]int64{5, 10, 4}, false},
		{[3]int64{4, 9, 5}, [3]int64{0, 0, 0}, false},
		{[3]int64{greatest - 1, greatest, greatest}, [3]int64{greatest - 1, greatest, greatest}, true},
		{[3]int64{greatest - 1, greatest, greatest}, [3]int64{greatest, greatest, greatest}, false},
	} {
		v := Version{Log: x.was[0], Next: x.was[1], Seq: x.was[2]}
		e := Edit{Log: x.e[0], Next: x.e[1], Seq: x.e[2]}
		if what := "numbers"; x.taken {
			wantApply(t, what, v, e, Version{Log: e.Log, Next: e.Next, Seq: e.Seq}, api.OK)
		} else {
			wantRefused(t, what, v, e)
		}
	}
}

// TestApplyNumbersOfTables: the numbers are held against the version's also where it has tables, which stay.
func TestApplyNumbersOfTables(t *testing.T) {
	v := base(t)
	for _, x := range [][3]int64{{5, 11, 70}, {6, 10, 70}, {6, 11, 69}, {11, 11, 70}, {12, 11, 70}, {0, 0, 0}, {least, least, least}} {
		wantRefused(t, "numbers", v, Edit{Log: x[0], Next: x[1], Seq: x[2]})
	}
	for _, x := range [][3]int64{{6, 11, 70}, {10, 11, 70}, {6, 12, 71}, {11, 12, 70}, {greatest - 1, greatest, greatest}} {
		want := v
		want.Log, want.Next, want.Seq = x[0], x[1], x[2]
		wantApply(t, "numbers", v, Edit{Log: x[0], Next: x[1], Seq: x[2]}, want, api.OK)
	}
}

// edit: what becomes of the base version.
func edit(drop []int64, add ...Place) Edit {
	return Edit{Add: add, Drop: drop, Log: 6, Next: 15, Seq: 70}
}

func TestApplyRefused(t *testing.T) {
	for _, x := range []struct {
		what string
		drop []int64
		add  []Place
	}{
		{"drops what isn't there", []int64{1}, nil},
		{"drops the log's number", []int64{6}, nil},
		{"drops the next number", []int64{11}, nil},
		{"drops below 0", []int64{-1}, nil},
		{"drops the least", []int64{least}, nil},
		{"drops the greatest", []int64{greatest}, nil},
		{"drops one that is there, and one that isn't", []int64{9, 10}, nil},
		{"drops one that isn't there, and one that is", []int64{10, 9}, nil},
		{"drops one twice", []int64{9, 9}, nil},
		{"drops one twice, another between", []int64{2, 5, 2}, nil},
		{"drops all, one twice", []int64{0, 2, 3, 4, 5, 7, 8, 9, 0}, nil},
		{"drops what it adds", []int64{12}, []Place{place(0, 12, "a", "b")}},
		{"adds below level 0", nil, []Place{place(-1, 12, "x", "y")}},
		{"adds in level 4", nil, []Place{place(4, 12, "x", "y")}},
		{"adds in level 5", nil, []Place{place(5, 12, "x", "y")}},
		{"adds in the least level", nil, []Place{place(math.MinInt, 12, "x", "y")}},
		{"adds in the greatest level", nil, []Place{place(math.MaxInt, 12, "x", "y")}},
		{"adds a file below 0", nil, []Place{{0, Meta{-1, 1, "x", "y"}}}},
		{"adds the least file", nil, []Place{{0, Meta{least, 1, "x", "y"}}}},
		{"adds the file Next", nil, []Place{place(0, 15, "x", "y")}},
		{"adds a file above Next", nil, []Place{place(0, 16, "x", "y")}},
		{"adds the greatest file", nil, []Place{{0, Meta{greatest, 1, "x", "y"}}}},
		{"adds what is there", nil, []Place{place(0, 9, "a", "c")}},
		{"adds what is there in another level", nil, []Place{place(0, 2, "a", "z")}},
		{"adds the file 0, which is there", nil, []Place{place(0, 0, "x", "y")}},
		{"adds what it drops", []int64{9}, []Place{place(0, 9, "a", "c")}},
		{"adds what it drops in another level", []int64{2}, []Place{place(3, 2, "a", "z")}},
		{"adds one twice", nil, []Place{place(0, 12, "x", "y"), place(0, 12, "x", "y")}},
		{"adds one twice, in two levels", nil, []Place{place(0, 12, "x", "y"), place(0, 13, "x", "y"), place(1, 12, "x", "y")}},
		{"adds a size below 0", nil, []Place{{0, Meta{12, -1, "x", "y"}}}},
		{"adds the least size", nil, []Place{{0, Meta{12, least, "x", "y"}}}},
		{"adds a Lo above its Hi", nil, []Place{place(0, 12, "y", "x")}},
		{"adds a Lo that begins with its Hi", nil, []Place{place(0, 12, "xx", "x")}},
		{"adds a Lo above an empty Hi", nil, []Place{place(1, 12, "\x00", "")}},
		{"adds a Lo above its Hi, as bytes", nil, []Place{place(1, 12, "\x80", "\x7f")}},
		{"adds one that can be, and one that can't", nil, []Place{place(0, 12, "x", "y"), place(4, 13, "x", "y")}},
		{"adds one that can't be, and one that can", nil, []Place{place(4, 13, "x", "y"), place(0, 12, "x", "y")}},
	} {
		wantRefused(t, x.what, base(t), edit(x.drop, x.add...))
	}
	wantRefused(t, "drops of none", Version{}, Edit{Drop: []int64{0}, Next: 1})
	wantRefused(t, "drops 0 of none", Version{}, Edit{Drop: []int64{0}})
	wantRefused(t, "adds to none, with all numbers 0", Version{}, Edit{Add: []Place{{0, Meta{}}}})
}

// TestApplyCommon: two tables of one level from 1 on with a key in common are refused, in level 0 they are fine.
func TestApplyCommon(t *testing.T) {
	for _, x := range []struct {
		lo, hi, low, high string
		common            bool
	}{
		{"a", "c", "d", "f", false}, {"a", "c", "c\x00", "f", false}, {"a", "c", "cc", "f", false},
		{"a", "c", "c", "f", true}, {"a", "c", "c", "c", true}, {"a", "c", "b", "f", true}, {"a", "c", "b", "b", true},
		{"a", "c", "a", "c", true}, {"a", "c", "a", "a", true}, {"a", "c", "a", "z", true}, {"a", "c", "", "a", true},
		{"a", "c", "", "", false}, {"a", "a", "a", "a", true}, {"a", "a", "b", "b", false}, {"a", "a", "a\x00", "a\x00", false},
		{"", "", "", "", true}, {"", "", "\x00", "\x00", false}, {"", "\xff", "\xff", "\xff\xff", true}, {"", "\xff", "\xff\x00", "\xff\xff", false},
		{"a", "ab", "abc", "abd", false}, {"a", "abc", "ab", "abd", true}, {"\x7f", "\x7f", "\x80", "\xff", false}, {"a", "\x80", "\x7f", "\xff", true},
		{"a", "z", "m", "n", true},
	} {
		first, second := meta(1, x.lo, x.hi), meta(2, x.low, x.high)
		for level := range api.Levels {
			rows := []Meta{first, second}
			if level == 0 || x.low < x.lo {
				slices.Reverse(rows)
			}
			want := Version{Next: 3}
			want.Levels[level] = rows
			one := made(t, Edit{Add: []Place{{level, first}}, Next: 3})
			two := made(t, Edit{Add: []Place{{level, second}}, Next: 3})
			for _, y := range []struct {
				v Version
				e Edit
			}{
				{Version{}, Edit{Add: []Place{{level, first}, {level, second}}, Next: 3}},
				{Version{}, Edit{Add: []Place{{level, second}, {level, first}}, Next: 3}},
				{one, Edit{Add: []Place{{level, second}}, Next: 3}},
				{two, Edit{Add: []Place{{level, first}}, Next: 3}},
			} {
				what := fmt.Sprintf("%q..%q and %q..%q in level %d", x.lo, x.hi, x.low, x.high, level)
				if x.common && level > 0 {
					wantRefused(t, what, y.v, y.e)
				} else {
					wantApply(t, what, y.v, y.e, want, api.OK)
				}
			}
		}
	}
}

// TestApplyCommonOfMany: also such as aren't neighbours by their Los, among others; and what is dropped has nothing in common with anything.
func TestApplyCommonOfMany(t *testing.T) {
	v := base(t)
	wantRefused(t, "a table over all of level 1", v, edit(nil, place(1, 12, "", "z")))
	wantRefused(t, "a table over two of level 1", v, edit(nil, place(1, 12, "c", "h")))
	wantRefused(t, "a table over one of level 1", v, edit(nil, place(1, 12, "c", "g")))
	wantRefused(t, "a table within one of level 2", v, edit(nil, place(2, 12, "b", "c")))
	wantRefused(t, "a table within the one of level 3", v, edit(nil, place(3, 12, "b", "c")))
	wantRefused(t, "a table over two, one of which goes", v, edit([]int64{3}, place(1, 12, "a", "d")))
	wantRefused(t, "two that come have a key in common", v, edit(nil, place(1, 12, "x", "y"), place(1, 13, "y", "z")))
	wantRefused(t, "two that come have a key in common where one goes", v, edit([]int64{5}, place(1, 12, "d", "e"), place(1, 13, "e", "f")))
	wantRefused(t, "one goes in another level", v, edit([]int64{2, 9}, place(1, 12, "b", "c")))

	want := v
	want.Next = 15
	want.Levels[1] = []Meta{meta(3, "a", "b"), meta(12, "c", "c"), meta(5, "d", "f"), meta(13, "g", "g\xff"), meta(8, "h", "h"), meta(14, "h\x00", "z")}
	wantApply(t, "tables between all of level 1", v, edit(nil, place(1, 14, "h\x00", "z"), place(1, 12, "c", "c"), place(1, 13, "g", "g\xff")), want, api.OK)
	want.Levels[1] = []Meta{meta(12, "a", "d"), meta(13, "f", "h")}
	wantApply(t, "tables in the stead of all of level 1", v, edit([]int64{8, 5, 3}, place(1, 13, "f", "h"), place(1, 12, "a", "d")), want, api.OK)
	want.Levels[1] = []Meta{meta(12, "", "z")}
	want.Levels[0], want.Levels[2] = want.Levels[0][:2], nil
	wantApply(t, "one table in the stead of many", v, edit([]int64{8, 2, 4, 5, 3}, place(1, 12, "", "z")), want, api.OK)
}

func TestApplyTaken(t *testing.T) {
	v := base(t)
	same := v
	same.Next = 15
	wantApply(t, "nothing goes, nothing comes", v, edit(nil), same, api.OK)
	wantApply(t, "empty lists", v, edit([]int64{}, []Place{}...), same, api.OK)

	want := same
	want.Levels[0] = []Meta{meta(14, "x", "y"), meta(10, "", ""), meta(9, "a", "c"), meta(7, "a", "c"), meta(6, "q", "q"), meta(4, "b", "b"), meta(1, "a", "z")}
	wantApply(t, "tables of level 0 stand by falling files", v, edit(nil, place(0, 1, "a", "z"), place(0, 10, "", ""), place(0, 14, "x", "y"), place(0, 6, "q", "q")), want, api.OK)

	want = same
	want.Levels = [4][]Meta{}
	wantApply(t, "all go", v, edit([]int64{5, 0, 9, 8, 4, 3, 2, 7}), want, api.OK)
	want.Levels[3] = []Meta{meta(12, "a", "z")}
	wantApply(t, "all go, one comes", v, edit([]int64{5, 0, 9, 8, 4, 3, 2, 7}, place(3, 12, "a", "z")), want, api.OK)

	for _, m := range []Meta{{12, 0, "", ""}, {14, greatest, "x", "x"}, {1, 1, strings.Repeat("k", 300), strings.Repeat("k", 70000)}} {
		want = same
		want.Levels[0] = []Meta{meta(9, "a", "c"), meta(7, "a", "c"), meta(4, "b", "b"), m}
		slices.SortFunc(want.Levels[0], func(a, b Meta) int { return int(b.File - a.File) })
		wantApply(t, "a table at the edges", v, edit(nil, Place{0, m}), want, api.OK)
	}
	most := Meta{greatest - 1, greatest, "a", "b"}
	wantApply(t, "the greatest file", Version{}, Edit{Add: []Place{{3, most}}, Next: greatest}, Version{Levels: [4][]Meta{3: {most}}, Next: greatest}, api.OK)
}

// TestApplyMoves: a file that is dropped may come again by a later edit, whose version doesn't have it any more.
func TestApplyMoves(t *testing.T) {
	v := base(t)
	gone, e := v.Apply(edit([]int64{9}))
	if e != api.OK {
		t.Fatalf("P14.1: Apply is %d", e)
	}
	wantRefused(t, "drops what was dropped", gone, edit([]int64{9}))
	want := gone
	want.Levels[2] = []Meta{meta(9, "", "A"), meta(2, "a", "z")}
	wantApply(t, "adds what was dropped", gone, edit(nil, place(2, 9, "", "A")), want, api.OK)
}

// from: the bytes that hexadecimal digits say; blanks don't count.
func from(t *testing.T, digits string) string {
	t.Helper()
	b, err := hex.DecodeString(strings.ReplaceAll(digits, " ", ""))
	if err != nil {
		t.Fatal(err)
	}
	return string(b)
}

// wantPut: Put tells these bytes, and changes nothing that was handed in.
func wantPut(t *testing.T, what string, e Edit, want string) {
	t.Helper()
	handed := roomyEdit(e)
	for range 2 {
		if s := Put(handed); s != want {
			t.Errorf("P14.2: %s: Put of %s is %.200x, not %.200x", what, said(e), s, want)
		}
		wantEditKept(t, "P14.2: Put", handed, e)
	}
}

func wantGet(t *testing.T, what, s string, want Edit, why api.Errno) {
	t.Helper()
	if e, errno := Get(s); !sameEdit(e, want) || errno != why {
		t.Errorf("P14.2: %s: Get(%.80x) is %s, %d, not %s, %d", what, s, said(e), errno, said(want), why)
	}
}

func TestBytes(t *testing.T) {
	for _, x := range []struct {
		what, digits string
		e            Edit
	}{
		{"the zero edit", "00 00 00 00 00", Edit{}},
		{"numbers", "02 04 06 00 00", Edit{Log: 1, Next: 2, Seq: 3}},
		{"numbers below 0", "01 03 05 00 00", Edit{Log: -1, Next: -2, Seq: -3}},
		{"a number of two bytes", "80 01 7f 00 00 00", Edit{Log: 64, Next: -64}},
		{"the least and the greatest", "ffffffffffffffffff01 feffffffffffffffff01 00 00 00", Edit{Log: least, Next: greatest}},
		{"drops", "00 00 00 06 02 00 01 00", Edit{Drop: []int64{1, 0, -1}}},
		{"drops one twice", "00 00 00 04 08 08 00", Edit{Drop: []int64{4, 4}}},
		{"adds", "00 0a 00 00 02 00 06 12 02 61 02 63", Edit{Add: []Place{{0, Meta{3, 9, "a", "c"}}}, Next: 5}},
		{"adds in all levels", "00 00 00 00 08 00 00 00 00 00 02 00 00 00 00 04 00 00 00 00 06 00 00 00 00", Edit{Add: []Place{{0, Meta{}}, {1, Meta{}}, {2, Meta{}}, {3, Meta{}}}}},
		{"adds numbers below 0, and a Lo above its Hi", "00 00 00 00 02 02 01 03 04 6262 02 61", Edit{Add: []Place{{1, Meta{-1, -2, "bb", "a"}}}}},
		{"all", "02 12 8001 02 0a 04 06 0e 10 02 ff 04 ff00 00 10 06 00 00", Edit{Log: 1, Next: 9, Seq: 64, Drop: []int64{5}, Add: []Place{{3, Meta{7, 8, "\xff", "\xff\x00"}}, {0, Meta{8, 3, "", ""}}}}},
	} {
		s := from(t, x.digits)
		wantPut(t, x.what, x.e, s)
		wantGet(t, x.what, s, x.e, api.OK)
	}
}

// TestPutAny: what Get would refuse is put all the same.
func TestPutAny(t *testing.T) {
	long := strings.Repeat("k", 70000)
	for _, x := range []struct {
		what, digits string
		e            Edit
		why          api.Errno
	}{
		{"a level below 0", "00 00 00 00 02 01 00 00 00 00", Edit{Add: []Place{{-1, Meta{}}}}, api.ErrForm},
		{"level 4", "00 00 00 00 02 08 00 00 00 00", Edit{Add: []Place{{4, Meta{}}}}, api.ErrForm},
		{"the least level", "00 00 00 00 02 ffffffffffffffffff01 00 00 00 00", Edit{Add: []Place{{least, Meta{}}}}, api.ErrForm},
		{"the greatest level", "00 00 00 00 02 feffffffffffffffff01 00 00 00 00", Edit{Add: []Place{{greatest, Meta{}}}}, api.ErrForm},
		{"a long Lo", "00 00 00 00 02 00 00 00 e0c508" + hex.EncodeToString([]byte(long)) + "00", Edit{Add: []Place{{0, Meta{Lo: long}}}}, api.ErrLong},
		{"a long Hi", "00 00 00 00 02 00 00 00 00 e0c508" + hex.EncodeToString([]byte(long)), Edit{Add: []Place{{0, Meta{Hi: long}}}}, api.ErrLong},
	} {
		s := from(t, x.digits)
		wantPut(t, x.what, x.e, s)
		wantGet(t, x.what, s, Edit{}, x.why)
	}
}

func TestGetRefused(t *testing.T) {
	const (
		numbers = "02 04 06 "
		all     = numbers + "04 02 04 02 "
	)
	for _, x := range []struct {
		what, digits string
		why          api.Errno
	}{
		{"nothing", "", api.ErrShort},
		{"no Next", "02", api.ErrShort},
		{"no Seq", "02 04", api.ErrShort},
		{"no count of drops", numbers, api.ErrShort},
		{"no drop", numbers + "02", api.ErrShort},
		{"a drop too few", numbers + "04 02", api.ErrShort},
		{"no count of adds", numbers + "00", api.ErrShort},
		{"no count of adds behind drops", numbers + "04 02 04", api.ErrShort},
		{"no level", all, api.ErrShort},
		{"no File", all + "02", api.ErrShort},
		{"no Size", all + "02 02", api.ErrShort},
		{"no Lo", all + "02 02 02", api.ErrShort},
		{"Lo cut off", all + "02 02 02 04 61", api.ErrShort},
		{"no Hi", all + "02 02 02 02 61", api.ErrShort},
		{"Hi cut off", all + "02 02 02 02 61 02", api.ErrShort},
		{"a number cut off", "80", api.ErrShort},
		{"Next cut off", "02 80", api.ErrShort},
		{"a number not in its shortest form", "80 00 00 00 00 00", api.ErrForm},
		{"Seq not in its shortest form", "02 04 80 00 00 00", api.ErrForm},
		{"a drop not in its shortest form", numbers + "02 81 00 00", api.ErrForm},
		{"a File of more than 64 bits", all + "02 ffffffffffffffffff02 02 00 00", api.ErrForm},
		{"a count of drops not in its shortest form", numbers + "80 00 00", api.ErrForm},
		{"a count of drops below 0", numbers + "01 00", api.ErrForm},
		{"a count of drops far below 0", numbers + "ffffffffffffffffff01 00", api.ErrForm},
		{"a count of drops above 4096, nothing behind", numbers + "8240", api.ErrForm},
		{"the greatest count of drops", numbers + "feffffffffffffffff01 00", api.ErrForm},
		{"4096 drops, nothing behind", numbers + "8040", api.ErrShort},
		{"a count of adds below 0", numbers + "00 01", api.ErrForm},
		{"a count of adds above 4096, nothing behind", numbers + "00 8240", api.ErrForm},
		{"the least count of adds", numbers + "00 ffffffffffffffffff01", api.ErrForm},
		{"the greatest count of adds", numbers + "00 feffffffffffffffff01", api.ErrForm},
		{"4096 adds, nothing behind", numbers + "00 8040", api.ErrShort},
		{"a level below 0", all + "01 02 02 00 00", api.ErrForm},
		{"level 4", all + "08 02 02 00 00", api.ErrForm},
		{"level 2 to the power of 32", all + "808080808020 02 02 00 00", api.ErrForm},
		{"a level, nothing behind", all + "08", api.ErrForm},
		{"the least level", all + "ffffffffffffffffff01 02 02 00 00", api.ErrForm},
		{"the greatest level", all + "feffffffffffffffff01 02 02 00 00", api.ErrForm},
		{"a length of Lo below 0", all + "02 02 02 01 00", api.ErrForm},
		{"a length of Hi below 0", all + "02 02 02 00 01", api.ErrForm},
		{"a length of Lo above MaxBody", all + "02 02 02 808008 00", api.ErrLong},
		{"a length of Hi above MaxBody", all + "02 02 02 00 808008", api.ErrLong},
		{"a length of Lo of MaxBody", all + "02 02 02 feff07 00", api.ErrShort},
		{"bytes left behind no add", numbers + "00 00 00", api.ErrForm},
		{"bytes left behind drops", numbers + "02 02 00 80", api.ErrForm},
		{"bytes left behind an add", all + "02 02 02 00 00 00", api.ErrForm},
		{"an add that isn't counted", numbers + "00 00 02 02 02 00 00", api.ErrForm},
		{"ahead of a count of drops that is wrong", "80 00 00 01", api.ErrForm},
		{"a drop cut off ahead of nothing else", numbers + "04 02 ff", api.ErrShort},
		{"a wrong level ahead of a text that is too long", all + "08 02 02 808008", api.ErrForm},
		{"a text that is too long ahead of a wrong level", numbers + "00 04 00 00 00 808008 08", api.ErrLong},
		{"a text that is too long ahead of bytes that are left", all + "02 02 02 00 808008 0000", api.ErrLong},
		{"the second level is wrong, and then cut off", numbers + "00 06 00 00 00 00 00 08", api.ErrForm},
		{"the second is cut off", numbers + "00 06 00 00 00 00 00 00", api.ErrShort},
	} {
		wantGet(t, x.what, from(t, x.digits), Edit{}, x.why)
	}
}

// manyOf: an edit that drops and adds so many.
func manyOf(drops, adds int) Edit {
	e := Edit{Log: 1, Next: 9000, Seq: 4}
	for i := range drops {
		e.Drop = append(e.Drop, int64(i))
	}
	for i := range adds {
		e.Add = append(e.Add, place(i%4, int64(4500+i), fmt.Sprintf("%05d", i), fmt.Sprintf("%05d", i)))
	}
	return e
}

// TestCounts: as many as may be, and more.
func TestCounts(t *testing.T) {
	for _, x := range []struct {
		drops, adds int
		why         api.Errno
	}{
		{0, 0, api.OK}, {4096, 0, api.OK}, {0, 4096, api.OK}, {4096, 4096, api.OK}, {4095, 4095, api.OK},
		{4097, 0, api.ErrForm}, {0, 4097, api.ErrForm}, {5000, 5000, api.ErrForm},
	} {
		e := manyOf(x.drops, x.adds)
		want := e
		if x.why != api.OK {
			want = Edit{}
		}
		wantGet(t, fmt.Sprint(x.drops, " drops, ", x.adds, " adds"), Put(e), want, x.why)
	}
}

// TestCutOff: of bytes that are cut off anywhere each is told as that, and with a byte more as left.
func TestCutOff(t *testing.T) {
	s := Put(base(t).Whole()) + "\x00"
	e := edit([]int64{2, 300, 70000}, place(2, 77, strings.Repeat("k", 64), strings.Repeat("l", 64)))
	for _, s := range []string{s[:len(s)-1], Put(e)} {
		for i := range s {
			wantGet(t, fmt.Sprint("cut off at ", i), s[:i], Edit{}, api.ErrShort)
		}
		for _, more := range []string{"\x00", "\x80", "\xff", s} {
			wantGet(t, "bytes are left", s+more, Edit{}, api.ErrForm)
		}
	}
}

func TestWhole(t *testing.T) {
	for _, v := range []Version{
		{}, {Seq: 4}, {Next: 1}, {Log: greatest - 1, Next: greatest, Seq: greatest}, base(t),
		made(t, Edit{Add: []Place{{0, Meta{}}}, Next: 1}), made(t, Edit{Add: []Place{{3, meta(1, "a", "b")}, {3, meta(0, "c", "d")}}, Next: 2}),
		made(t, manyOf(0, 4200)),
	} {
		var all []Place
		for level, l := range v.Levels {
			for _, m := range l {
				all = append(all, Place{level, m})
			}
		}
		want := Edit{Add: all, Log: v.Log, Next: v.Next, Seq: v.Seq}
		handed := roomyVersion(v)
		for range 2 {
			e := handed.Whole()
			if !sameEdit(e, want) {
				t.Errorf("P14.3: Whole of %s is %s, not %s", said(v), said(e), said(want))
			}
			wantApply(t, "the none version's, of Whole's edit", Version{}, e, v, api.OK)
			clear(e.Add[:cap(e.Add)])
			wantVersionKept(t, "P14.3: Whole", handed, v)
		}
	}
}

func wantFiles(t *testing.T, v Version, want ...int64) {
	t.Helper()
	handed := roomyVersion(v)
	for range 2 {
		l := handed.Files()
		if !slices.Equal(l, want) {
			t.Errorf("P14.3: Files of %s are %v, not %v", said(v), l, want)
		}
		clear(l[:cap(l)])
		wantVersionKept(t, "P14.3: Files", handed, v)
	}
}

func TestFiles(t *testing.T) {
	wantFiles(t, Version{})
	wantFiles(t, Version{Log: 4, Next: 9, Seq: 3})
	wantFiles(t, base(t), 0, 2, 3, 4, 5, 7, 8, 9)
	wantFiles(t, made(t, Edit{Add: []Place{{1, meta(8, "a", "b")}}, Next: 9}), 8)
	wantFiles(t, made(t, Edit{Add: []Place{{1, meta(1, "x", "y")}, {1, meta(7, "a", "b")}, {1, meta(4, "l", "m")}}, Next: 9}), 1, 4, 7)
	wantFiles(t, made(t, Edit{Add: []Place{{3, meta(0, "x", "y")}, {0, Meta{greatest - 1, 4, "a", "b"}}}, Next: greatest}), 0, greatest-1)
}

// wantOver: Over tells the tables of these files, a second time too.
func wantOver(t *testing.T, v Version, level int, lo, hi string, want ...Meta) {
	t.Helper()
	handed := roomyVersion(v)
	for range 2 {
		l := handed.Over(level, lo, hi)
		if !slices.Equal(l, want) {
			t.Errorf("P14.3: Over(%d, %q, %q) of %s is %v, not %v", level, lo, hi, said(v), l, want)
		}
		for i := range l {
			l[i] = Meta{-7, -7, "written", "written"}
		}
		clear(l[len(l):cap(l)])
		wantVersionKept(t, "P14.3: Over", handed, v)
	}
}

func TestOver(t *testing.T) {
	v := base(t)
	first, second, third := meta(9, "a", "c"), meta(7, "a", "c"), meta(4, "b", "b")
	ab, df, h := meta(3, "a", "b"), meta(5, "d", "f"), meta(8, "h", "h")
	wide, all := meta(2, "a", "z"), meta(0, "", "\xff\xff")
	for _, x := range []struct {
		level  int
		lo, hi string
		want   []Meta
	}{
		{0, "", "\xff", []Meta{first, second, third}}, {0, "a", "c", []Meta{first, second, third}},
		{0, "b", "b", []Meta{first, second, third}}, {0, "a", "a", []Meta{first, second}}, {0, "c", "c", []Meta{first, second}},
		{0, "a", "b", []Meta{first, second, third}}, {0, "b\x00", "c", []Meta{first, second}}, {0, "", "a", []Meta{first, second}},
		{0, "c\x00", "z", nil}, {0, "", "", nil}, {0, "", "Z", nil}, {0, "d", "\xff", nil},
		{1, "", "\xff", []Meta{ab, df, h}}, {1, "a", "h", []Meta{ab, df, h}}, {1, "b", "h", []Meta{ab, df, h}}, {1, "b\x00", "h", []Meta{df, h}},
		{1, "b", "d", []Meta{ab, df}}, {1, "b\x00", "c\xff", nil}, {1, "b", "c", []Meta{ab}}, {1, "c", "d", []Meta{df}}, {1, "e", "e", []Meta{df}},
		{1, "f", "g", []Meta{df}}, {1, "f\x00", "g\xff", nil}, {1, "f\x00", "h", []Meta{h}}, {1, "h", "h", []Meta{h}}, {1, "h", "\xff", []Meta{h}}, {1, "h\x00", "\xff", nil},
		{1, "", "", nil}, {1, "", "a", []Meta{ab}}, {1, "", "`", nil},
		{2, "", "", nil}, {2, "m", "m", []Meta{wide}}, {2, "", "\xff", []Meta{wide}}, {2, "z", "z", []Meta{wide}}, {2, "z\x00", "zz", nil},
		{3, "", "", []Meta{all}}, {3, "\xff\xff", "\xff\xff", []Meta{all}}, {3, "\xff\xff\x00", "\xff\xff\xff", nil},
		// A span that is back to front.
		{1, "e", "d", []Meta{df}}, {1, "f", "d", []Meta{df}}, {1, "f\x00", "d", nil}, {1, "f", "c", nil}, {1, "b", "a", []Meta{ab}}, {1, "h", "a", nil}, {1, "z", "", nil},
		{0, "c", "a", []Meta{first, second}}, {0, "c", "b", []Meta{first, second}}, {0, "b", "a", []Meta{first, second}}, {2, "z", "a", []Meta{wide}}, {3, "\xff", "", []Meta{all}},
		{-1, "", "\xff", nil}, {4, "", "\xff", nil}, {5, "a", "b", nil}, {math.MinInt, "", "\xff", nil}, {math.MaxInt, "", "\xff", nil},
	} {
		wantOver(t, v, x.level, x.lo, x.hi, x.want...)
		wantOver(t, Version{Log: 1, Next: 2}, x.level, x.lo, x.hi)
	}
	long := strings.Repeat("\xff", 70000)
	wantOver(t, v, 3, "", long, all)
	wantOver(t, v, 3, long, long)
}

// wantOwn: all texts of some tables have memory that none has that was seen before.
func wantOwn(t *testing.T, what string, seen map[*byte]string, tables ...Meta) {
	t.Helper()
	for _, m := range tables {
		for _, s := range []string{m.Lo, m.Hi} {
			if of, ok := seen[unsafe.StringData(s)]; ok {
				t.Errorf("%s: the memory of %q is that of %s too", what, s, of)
			}
			seen[unsafe.StringData(s)] = what
		}
	}
}

// TestMemory: an answer has no memory of what was handed in, nor of another answer, texts neither.
func TestMemory(t *testing.T) {
	bytes := []byte("abcdwxyz")
	text := func(at int) string { return unsafe.String(&bytes[at], 2) }
	elder, newer := Meta{1, 1, text(0), text(2)}, Meta{2, 1, text(4), text(6)}
	seen := map[*byte]string{}
	wantOwn(t, "what is handed in", seen, elder, newer)
	v := Version{Levels: [4][]Meta{1: {elder}}, Next: 3}
	got, e := v.Apply(Edit{Add: []Place{{1, newer}}, Next: 3})
	if e != api.OK || len(got.Levels[1]) != 2 {
		t.Fatalf("P14.1: Apply is %s, %d", said(got), e)
	}
	over := v.Over(1, "a", "z")
	whole := v.Whole()
	wantOwn(t, "P14.1: Apply", seen, got.Levels[1]...)
	wantOwn(t, "P14.3: Over", seen, over...)
	wantOwn(t, "P14.3: Whole", seen, whole.Add[0].Meta)
	clear(bytes)
	v.Levels[1][0] = stranger
	first, second := Meta{1, 1, "ab", "cd"}, Meta{2, 1, "wx", "yz"}
	if got.Levels[1][0] != first || got.Levels[1][1] != second || over[0] != first || whole.Add[0].Meta != first {
		t.Errorf("an answer has the memory of what was handed in: %s, %s, %s", said(got), said(over), said(whole))
	}
}

// TestGetMemory: what Get answers has no memory of the bytes.
func TestGetMemory(t *testing.T) {
	s := []byte(Put(Edit{Add: []Place{{2, Meta{1, 1, "key", "yek"}}}}))
	e, errno := Get(unsafe.String(&s[0], len(s)))
	clear(s)
	if want := (Edit{Add: []Place{{2, Meta{1, 1, "key", "yek"}}}}); !sameEdit(e, want) || errno != api.OK {
		t.Errorf("P14.2: Get is %s, %d, when its bytes are written on", said(e), errno)
	}
}

// TestAnyVersion: of versions that no Apply gave nothing is promised but that a call ends, and changes nothing of them.
func TestAnyVersion(t *testing.T) {
	for _, v := range []Version{
		{Levels: [4][]Meta{1: {meta(1, "z", "a"), meta(1, "a", "z"), meta(-4, "", "")}, 2: {meta(1, "a", "b"), meta(1, "a", "b")}}},
		{Levels: [4][]Meta{{meta(1, "a", "b"), meta(1, "a", "b")}, {meta(least, "b", "a")}, {}, {meta(greatest, "", "")}}, Log: least, Next: least, Seq: least},
		{Log: greatest, Next: -1, Seq: greatest},
	} {
		handed := roomyVersion(v)
		for _, e := range []Edit{{}, v.Whole(), {Drop: []int64{1}, Next: 9}, {Log: greatest, Next: greatest, Seq: greatest}, {Add: []Place{{1, Meta{}}}, Next: greatest}} {
			handed.Apply(e)
			handed.Files()
			handed.Whole()
			handed.Over(1, "a", "b")
			wantVersionKept(t, "P1: a call", handed, v)
		}
	}
}

// TestMany: many tables are gone through without going through all of the others for each.
func TestMany(t *testing.T) {
	const many = 200000
	e := Edit{Log: 1, Next: 2 * many}
	for i := range int64(many) {
		key := fmt.Sprintf("%07d", i*77777%many)
		e.Add = append(e.Add, place(int(i%4), i, key, key))
	}
	v := made(t, e)
	wantApply(t, "the none version's, of Whole's edit", Version{}, v.Whole(), v, api.OK)
	e = Edit{Log: 1, Next: 2 * many, Drop: v.Files()}
	wantApply(t, "all go", v, e, Version{Log: 1, Next: 2 * many}, api.OK)
}
