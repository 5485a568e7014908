package table

import (
	"fmt"
	"math"
	"slices"
	"strings"
	"testing"
	"unsafe"

	"oxbow/api"
	"oxbow/block"
)

func wantSpans(t *testing.T, what string, table *Table, want []Span) {
	t.Helper()
	if l := table.Spans(); !slices.Equal(l, want) {
		t.Errorf("P11.3: %s: Spans is %v, not %v", what, l, want)
	}
}

func wantMay(t *testing.T, what string, table *Table, key string, want bool) {
	t.Helper()
	if is := table.May(key); is != want {
		t.Errorf("P11.3: %s: May(%.80q) is %t", what, key, is)
	}
}

func wantWhich(t *testing.T, what string, table *Table, key string, want int) {
	t.Helper()
	if i := table.Which(key); i != want {
		t.Errorf("P11.3: %s: Which(%.80q) is %d, not %d", what, key, i, want)
	}
}

func wantBlock(t *testing.T, what string, table *Table, i int, want string, why api.Errno) {
	t.Helper()
	if s, e := table.Block(i); s != want || e != why {
		t.Errorf("P11.4: %s: Block(%d) is %.100x, %d, not %.100x, %d", what, i, s, e, want, why)
	}
}

func wantAll(t *testing.T, what string, table *Table, key string, want []api.Entry, why api.Errno) {
	t.Helper()
	if l, e := table.All(key); !slices.Equal(l, want) || e != why {
		t.Errorf("P11.4: %s: All(%.80q) is %.400v, %d, not %.400v, %d", what, key, l, e, want, why)
	}
}

// keys are some that are there in few's table, and some that aren't.
var keys = []string{"", "\x00", "a", "a\x00", "aa", "ab", "aba", "b", "b\xff", "c", "ca", "d", "d\x00", "e", "\xff", strings.Repeat("k", 5000)}

func TestNil(t *testing.T) {
	var table *Table
	wantSpans(t, "nil", table, nil)
	for _, key := range keys {
		wantMay(t, "nil", table, key, false)
		wantWhich(t, "nil", table, key, 0)
		wantAll(t, "nil", table, key, nil, api.ErrNil)
	}
	for _, i := range []int{0, 1, -1, math.MaxInt, math.MinInt} {
		wantBlock(t, "nil", table, i, "", api.ErrNil)
	}
}

// TestEmpty: a table of no entries.
func TestEmpty(t *testing.T) {
	table := opened(t, built(t, nil, 16, 10))
	wantSpans(t, "no entries", table, nil)
	for _, key := range keys {
		wantMay(t, "no entries", table, key, false)
		wantWhich(t, "no entries", table, key, 0)
		wantAll(t, "no entries", table, key, nil, api.OK)
	}
	for _, i := range []int{0, 1, -1, math.MaxInt, math.MinInt} {
		wantBlock(t, "no entries", table, i, "", api.ErrArg)
	}
}

// TestFew: all that a table of four blocks tells.
func TestFew(t *testing.T) {
	l := few()
	table := opened(t, built(t, l, 3, 10))
	wantSpans(t, "few", table, []Span{{"a", 0, 20}, {"ab", 20, 19}, {"c", 39, 26}, {"d", 65, 14}})
	bodies := []string{"04 00 02 61 04 02 02 78 02 00 02 00", "02 00 04 61 62 0a 02 06 78 79 7a",
		"06 00 02 62 08 10 00 02 00 06 00 00 02 63 02 02 02 78", "02 00 02 64 12 00"}
	for i, body := range bodies {
		wantBlock(t, "few", table, i, from(t, body), api.OK)
	}
	for _, i := range []int{-1, -2, 4, 5, 1 << 32, math.MaxInt, math.MinInt, math.MinInt + 1} {
		wantBlock(t, "few", table, i, "", api.ErrArg)
	}
	for _, x := range []struct {
		key         string
		which, from int
	}{
		{"", 0, 0}, {"\x00", 0, 0}, {"a", 0, 0}, {"a\x00", 1, 2}, {"aa", 1, 2}, {"ab", 1, 2}, {"ab\x00", 2, 3}, {"aba", 2, 3}, {"b", 2, 3},
		{"b\x00", 2, 5}, {"b\xff", 2, 5}, {"c", 2, 5}, {"ca", 3, 6}, {"d", 3, 6}, {"d\x00", 4, 7}, {"e", 4, 7}, {"\xff", 4, 7}, {strings.Repeat("k", 5000), 4, 7},
	} {
		wantWhich(t, "few", table, x.key, x.which)
		wantAll(t, "few", table, x.key, l[x.from:], api.OK)
	}
	for _, entry := range l {
		wantMay(t, "few", table, entry.Key, true)
	}
}

// TestKeyInBlocks: one key's entries stand in several blocks, of which Which tells the first.
func TestKeyInBlocks(t *testing.T) {
	l := append(append([]api.Entry{gone("a", 1)}, many(5)...), gone("l", 1))
	table := opened(t, built(t, l, 2, 10))
	wantSpans(t, "a key in blocks", table, []Span{{"k", 0, 19}, {"k", 19, 18}, {"k", 37, 18}, {"l", 55, 14}})
	for _, x := range []struct {
		key         string
		which, from int
	}{{"a", 0, 0}, {"b", 0, 1}, {"k", 0, 1}, {"k\x00", 3, 6}, {"l", 3, 6}, {"m", 4, 7}} {
		wantWhich(t, "a key in blocks", table, x.key, x.which)
		wantAll(t, "a key in blocks", table, x.key, l[x.from:], api.OK)
	}
}

// TestMay: what the filter tells, whatever the blocks have.
func TestMay(t *testing.T) {
	a := of(t, gone("a", 1))
	none := filterOf(t, 10)
	for _, x := range []struct {
		what, filter string
		want         bool
	}{
		{"a filter of a", filterOf(t, 10, "a"), true},
		{"a filter of no keys", none, false},
		{"a filter of b", filterOf(t, 16, "b"), false},
		{"no filter", "", true},
		{"a filter of no probes", "\x00" + none[1:], true},
		{"a filter of nine probes", "\x09" + none[1:], true},
		{"a filter of no bits", "\x06", true},
		{"a filter of all bits", "\x08\xff", true},
		{"a filter of one byte", "\x08\x00", false},
		{"a filter as long as it may be", "\x08" + strings.Repeat("\x00", 65534), false},
	} {
		table := opened(t, laid(x.filter, a))
		wantMay(t, x.what, table, "a", x.want)
		wantAll(t, x.what, table, "a", []api.Entry{gone("a", 1)}, api.OK)
	}
	// An absent key is seldom told.
	var l []api.Entry
	for i := range 500 {
		l = append(l, gone(fmt.Sprintf("key %03d", i), 1))
	}
	table, told := opened(t, built(t, l, 100, 10)), 0
	for i := range 500 {
		wantMay(t, "a key that is there", table, l[i].Key, true)
		if table.May(fmt.Sprintf("other %04d", i)) {
			told++
		}
	}
	if told > 100 {
		t.Errorf("P11.3: of 500 keys that aren't there May tells %d", told)
	}
}

// TestBlockAtFault: frame.Get's error, or that of further bytes; it is told of that block alone.
func TestBlockAtFault(t *testing.T) {
	a, b, c := of(t, gone("a", 1)), of(t, put("b", 1, "x")), of(t, gone("c", 1))
	good := b.bytes
	for _, x := range []struct {
		what, bytes string
		why         api.Errno
	}{
		{"a byte behind", good + "\x00", api.ErrForm},
		{"two frames", good + good, api.ErrForm},
		{"a byte ahead", "\x00" + good, api.ErrForm},
		{"the last byte cut off", good[:len(good)-1], api.ErrShort},
		{"a body cut off", good[:8], api.ErrShort},
		{"another length", "\x00\x07" + good[2:], api.ErrForm},
		{"another check sum", good[:4] + "\x00\x00\x00\x00" + good[8:], api.ErrSum},
		{"another check sum, and a byte behind", good[:4] + "\x00\x00\x00\x00" + good[8:] + "x", api.ErrSum},
		{"another body", good[:len(good)-1] + "y", api.ErrSum},
		{"zeros", strings.Repeat("\x00", 70000), api.ErrForm},
	} {
		table := opened(t, laid("", a, piece{"b", x.bytes}, c))
		wantBlock(t, x.what, table, 0, a.bytes[8:], api.OK)
		wantBlock(t, x.what, table, 1, "", x.why)
		wantBlock(t, x.what, table, 2, c.bytes[8:], api.OK)
		for _, key := range []string{"", "a", "aa", "b"} {
			wantAll(t, x.what, table, key, nil, x.why)
		}
		wantAll(t, x.what, table, "b\x00", []api.Entry{gone("c", 1)}, api.OK)
	}
	// What a block's body is, Block doesn't ask.
	for _, body := range []string{"", "\x00", "x", strings.Repeat("\xff", 65535)} {
		wantBlock(t, "any body", opened(t, laid("", a, piece{"b", frames(body)})), 1, body, api.OK)
	}
}

// TestBroken: the source's error of a block, as it is.
func TestBroken(t *testing.T) {
	l := few()
	s := built(t, l, 3, 10)
	spans := opened(t, s).Spans()
	for _, why := range []api.Errno{api.ErrNone, api.ErrPower, api.ErrArg, api.ErrNil, api.ErrSum, -1, 99, math.MaxInt, math.MinInt} {
		for place := range spans[3].At + spans[3].N {
			table, e := Open(broken(t, s, place, why), len(s))
			if e != api.OK {
				t.Fatalf("P11.2: Open tells %d of what stands at %d", e, place)
			}
			for i, span := range spans {
				if span.At <= place && place < span.At+span.N {
					wantBlock(t, "a broken source", table, i, "", why)
					wantAll(t, "a broken source", table, span.Last, nil, why)
					wantAll(t, "a broken source", table, "", nil, why)
				} else if _, e := table.Block(i); e != api.OK {
					t.Errorf("P11.4: Block(%d) tells %d of what stands at %d", i, e, place)
				}
			}
			wantAll(t, "behind all", table, "e", nil, api.OK)
		}
	}
}

// TestSourceAnew: a source that is repaired, or that breaks, once the table is opened.
func TestSourceAnew(t *testing.T) {
	l := few()
	s := built(t, l, 3, 10)
	why := api.OK
	table, _ := Open(func(at, n int) (string, api.Errno) { return s[at : at+n], why }, len(s))
	wantAll(t, "a source", table, "c", l[5:], api.OK)
	why = api.ErrPower
	wantAll(t, "broken", table, "c", nil, api.ErrPower)
	wantBlock(t, "broken", table, 0, "", api.ErrPower)
	wantBlock(t, "broken, no such block", table, 4, "", api.ErrArg)
	wantWhich(t, "broken", table, "c", 2)
	wantMay(t, "broken", table, "c", true)
	wantAll(t, "broken, behind all", table, "e", nil, api.OK)
	why = api.OK
	wantAll(t, "repaired", table, "c", l[5:], api.OK)
}

// TestAllAtFault: the errors of All that Block doesn't tell.
func TestAllAtFault(t *testing.T) {
	a, c := of(t, gone("a", 2)), of(t, gone("c", 1))
	body := func(digits string) string { return frames(from(t, digits)) }
	for _, x := range []struct {
		what string
		b    piece
		why  api.Errno
	}{
		{"no bytes", piece{"b", frames("")}, api.ErrShort},
		{"cut off", piece{"b", body("02 00 02 62 02")}, api.ErrShort},
		{"a byte behind", piece{"b", body("02 00 02 62 02 00 00")}, api.ErrForm},
		{"too many", piece{"b", body("82 40")}, api.ErrLong},
		{"a Seq of 0", piece{"b", body("02 00 02 62 00 00")}, api.ErrArg},
		{"unordered", piece{"b", body("04 00 02 62 02 00 02 00 02 00")}, api.ErrOrder},
		{"no entries", piece{"b", body("00")}, api.ErrForm},
		{"another last key", piece{"b", of(t, gone("aa", 1)).bytes}, api.ErrForm},
		{"a longer last key", piece{"b", of(t, gone("b\x00", 1)).bytes}, api.ErrForm},
		{"another last key behind the right one", piece{"b", of(t, gone("b", 1), gone("bb", 1)).bytes}, api.ErrForm},
		{"the key of the one ahead first", piece{"b", of(t, gone("a", 2), gone("b", 1)).bytes}, api.ErrForm},
		{"a newer one of the key ahead first", piece{"b", of(t, gone("a", 3), gone("b", 1)).bytes}, api.ErrForm},
		{"a key below the one ahead first", piece{"b", of(t, gone("A", 1), gone("b", 1)).bytes}, api.ErrForm},
	} {
		table := opened(t, laid("", a, x.b, c))
		for _, key := range []string{"", "a"} {
			wantAll(t, x.what, table, key, nil, x.why)
		}
		// Where it is the first block that is read, what it begins with isn't held against the one ahead.
		for _, key := range []string{"aa", "b"} {
			entries, e := block.Parse(x.b.bytes[8:])
			if strings.HasSuffix(x.what, "first") && e == api.OK {
				wantAll(t, x.what, table, key, append(entries[1:], gone("c", 1)), api.OK)
				continue
			}
			wantAll(t, x.what, table, key, nil, x.why)
		}
		wantAll(t, x.what, table, "c", []api.Entry{gone("c", 1)}, api.OK)
	}
	// An older one of the key ahead may stand there.
	l := []api.Entry{gone("a", 2), gone("a", 1), gone("b", 1), gone("c", 1)}
	wantAll(t, "an older one", opened(t, laid("", a, of(t, l[1:3]...), c)), "", l, api.OK)
	// A first block of no entries.
	wantAll(t, "no entries", opened(t, laid("", piece{"", body("00")})), "", nil, api.ErrForm)
	wantAll(t, "no entries, behind it", opened(t, laid("", piece{"", body("00")})), "a", nil, api.OK)
}

// TestFirstBlock: the first block that a call reads isn't held against another; its keys below are left out.
func TestFirstBlock(t *testing.T) {
	table := opened(t, laid("", of(t, gone("a", 1), gone("c", 1)), of(t, gone("b", 1), gone("d", 1)), of(t, gone("d", 9), gone("e", 1))))
	wantAll(t, "all three", table, "", nil, api.ErrForm)
	wantAll(t, "all three", table, "c", nil, api.ErrForm)
	wantAll(t, "the last two", table, "ca", nil, api.ErrForm)
	wantAll(t, "the last two", table, "d", nil, api.ErrForm)
	wantAll(t, "the last one", table, "da", []api.Entry{gone("e", 1)}, api.OK)
	table = opened(t, laid("", of(t, gone("a", 1), gone("c", 1)), of(t, gone("b", 1), gone("d", 1))))
	wantAll(t, "both", table, "c", nil, api.ErrForm)
	wantAll(t, "the last one", table, "ca", []api.Entry{gone("d", 1)}, api.OK)
	// Another call reads from its own first block on, whatever one ahead of it has read.
	wantAll(t, "both", table, "", nil, api.ErrForm)
	wantAll(t, "the last one", table, "cb", []api.Entry{gone("d", 1)}, api.OK)
}

// TestWhichAllError: of several blocks at fault the first one's is told, and none that stands ahead of what is read.
func TestWhichAllError(t *testing.T) {
	sum := of(t, gone("a", 1))
	sum.bytes = sum.bytes[:7] + "\x00" + sum.bytes[8:]
	parse := piece{"b", frames("\x82\x40")}
	empty := piece{"c", frames("\x00")}
	table := opened(t, laid("", sum, parse, empty))
	for key, why := range map[string]api.Errno{"": api.ErrSum, "a": api.ErrSum, "aa": api.ErrLong, "b": api.ErrLong, "ba": api.ErrForm, "c": api.ErrForm, "d": api.OK} {
		wantAll(t, "three at fault", table, key, nil, why)
	}
	// One that isn't above the one ahead, and one behind it whose bytes are at fault; and the other way round.
	sum.last = "c"
	table = opened(t, laid("", of(t, gone("a", 1)), of(t, gone("a", 1), gone("b", 1)), sum))
	wantAll(t, "not above, then a check sum", table, "", nil, api.ErrForm)
	wantAll(t, "a check sum", table, "b", nil, api.ErrSum)
	// A block whose body is at fault isn't held against anything.
	table = opened(t, laid("", of(t, gone("a", 1)), piece{"a", frames("\x02\x00\x02a\x02")}))
	wantAll(t, "cut off, not above", table, "", nil, api.ErrShort)
}

// TestRead: Open reads no block, Block none but its own, Which none, All those from Which on.
func TestRead(t *testing.T) {
	s := built(t, few(), 3, 10)
	spans := opened(t, s).Spans()
	read := map[int]bool{}
	table, _ := Open(func(at, n int) (string, api.Errno) {
		for place := at; place < at+n; place++ {
			read[place] = true
		}
		return s[at : at+n], api.OK
	}, len(s))
	want := func(what string, some ...Span) {
		t.Helper()
		for _, span := range spans {
			for place := span.At; place < span.At+span.N; place++ {
				if read[place] != slices.Contains(some, span) {
					t.Fatalf("%s reads at %d, or doesn't", what, place)
				}
			}
		}
		clear(read)
	}
	want("Open")
	table.Spans()
	table.May("a")
	table.Which("b")
	want("Which")
	table.Block(2)
	want("Block", spans[2])
	table.All("b")
	want("All", spans[2], spans[3])
}

// alike: do two texts share memory?
func alike(a, b string) bool {
	from, to := uintptr(unsafe.Pointer(unsafe.StringData(a))), uintptr(unsafe.Pointer(unsafe.StringData(b)))
	return from < to+uintptr(len(b)) && to < from+uintptr(len(a))
}

// TestMemory: what is answered is new.
func TestMemory(t *testing.T) {
	l := few()
	given := built(t, l, 3, 10)
	table := opened(t, given)
	spans, other := table.Spans(), table.Spans()
	for i := range spans {
		if alike(spans[i].Last, other[i].Last) || alike(spans[i].Last, table.spans[i].Last) || alike(spans[i].Last, given) {
			t.Errorf("P11.3: Spans hands out the memory of a key")
		}
	}
	clear(spans)
	wantSpans(t, "behind a change of what it told", table, other)
	a, _ := table.Block(0)
	b, _ := table.Block(0)
	if alike(a, b) || alike(a, given) {
		t.Errorf("P11.4: Block hands out the memory of the source")
	}
	if alike(table.filter, given) || alike(table.spans[0].Last, given) {
		t.Errorf("P11.2: Open keeps the memory of the source")
	}
	all, _ := table.All("")
	again, _ := table.All("")
	for i := range all {
		if alike(all[i].Key, again[i].Key) || alike(all[i].Key, given) || alike(all[i].Value, given) {
			t.Errorf("P11.4: All hands out the memory of another")
		}
	}
	clear(all)
	wantAll(t, "behind a change of what it told", table, "", l, api.OK)
}
