package merge

import (
	"fmt"
	"math"
	"slices"
	"strings"
	"testing"
	"unsafe"

	"oxbow/api"
)

const (
	least    = math.MinInt64
	greatest = math.MaxInt64
)

// put, gone, until: entries, with a value that no other key and Seq has.
func put(key string, seq int64) api.Entry {
	return api.Entry{Key: key, Seq: seq, Value: fmt.Sprint(key, seq)}
}

func gone(key string, seq int64) api.Entry { return api.Entry{Key: key, Seq: seq, Gone: true} }

func until(key string, seq, at int64) api.Entry {
	e := put(key, seq)
	e.Until = at
	return e
}

func valued(key string, seq int64, value string) api.Entry {
	return api.Entry{Key: key, Seq: seq, Value: value}
}

// roomy: a copy of a list, with entries behind its length that would be seen, if they were read, and missed, if they were written on.
func roomy[T any](l []T, other T) []T {
	all := append(slices.Clone(l), other, other, other)
	return all[:len(l)]
}

// wantKept: a list that was handed in is as it was, also behind its length.
func wantKept[T comparable](t *testing.T, what string, handed, was []T, other T) {
	t.Helper()
	if !slices.Equal(handed, was) {
		t.Errorf("%s changed what was handed in: %+v, not %+v", what, handed, was)
	}
	if !slices.Equal(handed[len(was):len(was)+3], []T{other, other, other}) {
		t.Errorf("%s wrote behind the length of what was handed in", what)
	}
}

// other stands behind the length of each list of entries that a test hands in.
var other = valued("other", 7, "other")

// wantEntries: a list is just this one, and it is a new one: what is done to it is done to nothing else.
func wantEntries(t *testing.T, what string, got, want []api.Entry) {
	t.Helper()
	if !slices.Equal(got, want) {
		t.Errorf("%s: %s, not %s", what, said(got), said(want))
	}
	for i := range got {
		got[i] = valued("written", -7, "written")
	}
	clear(got[len(got):cap(got)])
}

// said: entries in few words, the first ones of many.
func said(l []api.Entry) string {
	s := []string{}
	for i, e := range l {
		if i == 50 {
			s = append(s, fmt.Sprint("and so on, ", len(l), " in all"))
			break
		}
		one := fmt.Sprintf("%q@%d", e.Key, e.Seq)
		if e.Gone {
			one += " gone"
		}
		if e.Until != 0 {
			one += fmt.Sprintf(" until %d", e.Until)
		}
		s = append(s, fmt.Sprintf("%s=%.20q", one, e.Value))
	}
	return "[" + strings.Join(s, ", ") + "]"
}

// wantMerge, wantVisible, wantCompact: a call tells this list, a second time too, and changes nothing that was handed in.
func wantMerge(t *testing.T, what string, lists [][]api.Entry, want []api.Entry) {
	t.Helper()
	what = "P13.1: Merge, " + what
	var handed [][]api.Entry
	for _, l := range lists {
		handed = append(handed, roomy(l, other))
	}
	for range 2 {
		wantEntries(t, what, Merge(handed...), want)
		for i, l := range lists {
			wantKept(t, what, handed[i], l, other)
		}
	}
}

func wantVisible(t *testing.T, what string, entries []api.Entry, seq, now int64, want []api.Entry) {
	t.Helper()
	what = fmt.Sprintf("P13.2: Visible of %s up to %d at %d", what, seq, now)
	handed := roomy(entries, other)
	for range 2 {
		wantEntries(t, what, Visible(handed, seq, now), want)
		wantKept(t, what, handed, entries, other)
	}
}

func wantCompact(t *testing.T, what string, entries []api.Entry, snaps []int64, now int64, bottom bool, want []api.Entry) {
	t.Helper()
	what = fmt.Sprintf("P13.3: Compact of %s, snaps %v, at %d, bottom %t", what, snaps, now, bottom)
	handed, seqs := roomy(entries, other), roomy(snaps, 2)
	for range 2 {
		wantEntries(t, what, Compact(handed, seqs, now, bottom), want)
		wantKept(t, what, handed, entries, other)
		wantKept(t, what, seqs, snaps, 2)
	}
}

func TestExample(t *testing.T) {
	a3, a2, b1 := gone("a", 3), valued("a", 2, "x"), valued("b", 1, "y")
	all := []api.Entry{a3, a2, b1}
	wantVisible(t, "the example", all, 2, 0, []api.Entry{a2, b1})
	wantVisible(t, "the example", all, 3, 0, []api.Entry{b1})
	wantCompact(t, "the example", all, nil, 0, false, []api.Entry{a3, b1})
	wantCompact(t, "the example", all, nil, 0, true, []api.Entry{b1})
	wantCompact(t, "the example", all, []int64{2}, 0, false, all)
	wantCompact(t, "the example", all, []int64{2}, 0, true, all)
}

// row is entries in order that stand at the edges of the order.
func row() []api.Entry {
	return []api.Entry{
		put("", greatest), put("", 1), put("", 0), put("", -1), put("", least),
		put("\x00", 9), put("\x00\x00", 9), put("A", 1),
		put("a", greatest), put("a", greatest-1), gone("a", 9), until("a", 8, 5), put("a", 7), put("a", 0), put("a", -4), put("a", least),
		put("a\x00", 1), put("aa", 3), put("aa", 2), put("b", 6), put("b", 5),
		put("z", 1), put("\x7f", 1), put("\x80", 1), put("\xc3\xa9", 1), put("\xff", 7), put("\xff", -7), put("\xff\x00", 7),
		put(strings.Repeat("\xff", 100), 3), put(strings.Repeat("\xff", 100), 2), put(strings.Repeat("\xff", 101), 3),
	}
}

func TestMergeFew(t *testing.T) {
	a, b, c := put("a", 1), put("b", 1), put("c", 1)
	for _, x := range []struct {
		what  string
		lists [][]api.Entry
		want  []api.Entry
	}{
		{"no list", nil, nil},
		{"a nil list", [][]api.Entry{nil}, nil},
		{"an empty list", [][]api.Entry{{}}, nil},
		{"some empty lists", [][]api.Entry{{}, nil, {}, nil}, nil},
		{"one list of one", [][]api.Entry{{a}}, []api.Entry{a}},
		{"one list", [][]api.Entry{{a, b, c}}, []api.Entry{a, b, c}},
		{"one list of the edges", [][]api.Entry{row()}, row()},
		{"one list and empty ones", [][]api.Entry{nil, {}, {a, b, c}, {}, nil}, []api.Entry{a, b, c}},
		{"two lists", [][]api.Entry{{a, c}, {b}}, []api.Entry{a, b, c}},
		{"two lists, the other way round", [][]api.Entry{{b}, {a, c}}, []api.Entry{a, b, c}},
		{"one behind the other", [][]api.Entry{{a, b}, {c}}, []api.Entry{a, b, c}},
		{"one ahead of the other", [][]api.Entry{{c}, {a, b}}, []api.Entry{a, b, c}},
		{"with empty ones between", [][]api.Entry{{}, {c}, nil, {a}, {}, {b}, nil}, []api.Entry{a, b, c}},
		{"a list twice", [][]api.Entry{{a, b, c}, {a, b, c}}, []api.Entry{a, b, c}},
		{"one key, by falling Seq", [][]api.Entry{{put("a", 4), put("a", 1)}, {put("a", 3)}, {put("a", 5), put("a", 2)}}, []api.Entry{put("a", 5), put("a", 4), put("a", 3), put("a", 2), put("a", 1)}},
		{"one Seq, by keys", [][]api.Entry{{put("ab", 1)}, {put("a", 1), put("b", 1)}, {put("", 1), put("\xff", 1)}}, []api.Entry{put("", 1), put("a", 1), put("ab", 1), put("b", 1), put("\xff", 1)}},
		{"what is gone and what isn't alive", [][]api.Entry{{gone("a", 4), until("a", 1, 1)}, {until("a", 3, -9), gone("b", 1)}}, []api.Entry{gone("a", 4), until("a", 3, -9), until("a", 1, 1), gone("b", 1)}},
	} {
		wantMerge(t, x.what, x.lists, x.want)
	}
}

// TestMergeDealt: entries that are dealt to lists come together in order, however they are dealt.
func TestMergeDealt(t *testing.T) {
	all := row()
	for n := 1; n <= len(all)+3; n++ {
		deals := map[string]func(i int) int{
			"in turn":      func(i int) int { return i % n },
			"in turn back": func(i int) int { return n - 1 - i%n },
			"in runs":      func(i int) int { return i * n / len(all) },
			"runs back":    func(i int) int { return n - 1 - i*n/len(all) },
			"scattered":    func(i int) int { return i * i * 7 % n },
		}
		for what, to := range deals {
			lists := make([][]api.Entry, n)
			for i, e := range all {
				lists[to(i)] = append(lists[to(i)], e)
			}
			wantMerge(t, fmt.Sprintf("%d lists, %s", n, what), lists, all)
		}
	}
}

// TestMergeFirst: of several entries of one key and Seq that of the first list is told, whatever else it has.
func TestMergeFirst(t *testing.T) {
	mine := func(list int) []api.Entry {
		tag := fmt.Sprint("list ", list)
		return []api.Entry{valued("a", 2, tag), {Key: "a", Seq: 1, Value: tag, Until: int64(list)}, valued("b", 9, tag), {Key: "c", Seq: 0, Gone: true, Value: tag}}
	}
	for n := 1; n < 9; n++ {
		var lists [][]api.Entry
		for list := range n {
			lists = append(lists, mine(list))
		}
		wantMerge(t, fmt.Sprintf("%d lists that share all", n), lists, mine(0))
		slices.Reverse(lists)
		wantMerge(t, fmt.Sprintf("%d lists that share all, back", n), lists, mine(n-1))
		// The last list has all entries, the one ahead of it all but the first, and so on.
		for list := range lists {
			lists[list] = mine(list)[min(4, n-1-list):]
		}
		var want []api.Entry
		for i := range 4 {
			want = append(want, mine(max(0, n-1-i))[i])
		}
		wantMerge(t, fmt.Sprintf("%d lists that share some", n), lists, want)
	}
	for _, x := range [][]api.Entry{{put("k", 1), gone("k", 1)}, {gone("k", 1), put("k", 1)}, {until("k", 1, 5), until("k", 1, 6)}, {until("k", 1, 6), until("k", 1, 5)}, {valued("k", 1, ""), valued("k", 1, "z")}, {valued("k", 1, "z"), valued("k", 1, "")}} {
		wantMerge(t, "two of one key and Seq", [][]api.Entry{x[:1], x[1:]}, x[:1])
		wantMerge(t, "two of one key and Seq, others around", [][]api.Entry{{put("j", 1), x[0]}, {x[1], put("l", 1)}}, []api.Entry{put("j", 1), x[0], put("l", 1)})
		wantMerge(t, "two of one key and Seq, others between", [][]api.Entry{{put("l", 1)}, {put("j", 1), x[0], put("m", 1)}, {put("i", 1), x[1]}}, []api.Entry{put("i", 1), put("j", 1), x[0], put("l", 1), put("m", 1)})
	}
}

func TestAlive(t *testing.T) {
	for _, x := range []struct {
		until, now int64
		want       bool
	}{
		{0, 0, true}, {0, 1, true}, {0, -1, true}, {0, greatest, true}, {0, least, true},
		{10, 9, true}, {10, 10, true}, {10, 11, false}, {10, greatest, false}, {10, least, true}, {10, 0, true},
		{1, 0, true}, {1, 1, true}, {1, 2, false},
		{greatest, greatest, true}, {greatest, greatest - 1, true}, {greatest - 1, greatest, false}, {greatest, least, true},
		{-1, -2, true}, {-1, -1, true}, {-1, 0, false}, {-1, 1, false},
		{least, least, true}, {least, least + 1, false}, {least, 0, false}, {least, greatest, false},
	} {
		for _, e := range []api.Entry{{}, put("a", 1), put("a", -1), valued(strings.Repeat("k", 99), least, strings.Repeat("v", 999))} {
			e.Until = x.until
			if got := Alive(e, x.now); got != x.want {
				t.Errorf("P13.1: Alive of %+v at %d is %t", e, x.now, got)
			}
			e.Gone = true
			if Alive(e, x.now) {
				t.Errorf("P13.1: Alive of %+v at %d is true", e, x.now)
			}
		}
	}
}

func TestVisible(t *testing.T) {
	b9, b7, b5, b3 := put("b", 9), gone("b", 7), until("b", 5, 10), put("b", 3)
	of := []api.Entry{b9, b7, b5, b3}
	for _, x := range []struct {
		seq, now int64
		want     []api.Entry
	}{
		{least, 0, nil}, {-1, 0, nil}, {0, 0, nil}, {2, 0, nil},
		{3, 0, []api.Entry{b3}}, {3, greatest, []api.Entry{b3}}, {4, least, []api.Entry{b3}}, {4, 11, []api.Entry{b3}},
		{5, least, []api.Entry{b5}}, {5, 0, []api.Entry{b5}}, {5, 9, []api.Entry{b5}}, {5, 10, []api.Entry{b5}}, {5, 11, nil}, {6, 10, []api.Entry{b5}}, {6, 11, nil}, {6, greatest, nil},
		{7, 0, nil}, {8, 10, nil},
		{9, 0, []api.Entry{b9}}, {10, 11, []api.Entry{b9}}, {greatest, greatest, []api.Entry{b9}}, {greatest, least, []api.Entry{b9}},
	} {
		wantVisible(t, "one key", of, x.seq, x.now, x.want)
		a, c := put("a", x.seq), put("c", x.seq)
		around := append(append([]api.Entry{a}, of...), c)
		wantVisible(t, "one key between others", around, x.seq, x.now, append(append([]api.Entry{a}, x.want...), c))
	}
	for _, seq := range []int64{least, 0, 1, greatest} {
		wantVisible(t, "nothing", nil, seq, seq, nil)
		wantVisible(t, "an empty list", []api.Entry{}, seq, seq, nil)
	}
}

// TestVisibleKeys: each key by itself, in order; also of entries that aren't good.
func TestVisibleKeys(t *testing.T) {
	long := strings.Repeat("k", 1000)
	all := []api.Entry{
		put("", 3), put("", 2), gone("\x00", 3), put("\x00", 2), put("a", 4), put("a\x00", 4), put("a\x00", 1), until("aa", 2, 1), put("aa", 1),
		until("b", 2, -5), gone("c", 0), put("c", -1), put("c", least), put(long, 1), gone("\xff", 9),
	}
	for _, x := range []struct {
		seq, now int64
		want     []api.Entry
	}{
		{greatest, 0, []api.Entry{put("", 3), put("a", 4), put("a\x00", 4), until("aa", 2, 1), put(long, 1)}},
		{4, 1, []api.Entry{put("", 3), put("a", 4), put("a\x00", 4), until("aa", 2, 1), put(long, 1)}},
		{3, 2, []api.Entry{put("", 3), put("a\x00", 1), put(long, 1)}},
		{2, 0, []api.Entry{put("", 2), put("\x00", 2), put("a\x00", 1), until("aa", 2, 1), put(long, 1)}},
		{2, -5, []api.Entry{put("", 2), put("\x00", 2), put("a\x00", 1), until("aa", 2, 1), until("b", 2, -5), put(long, 1)}},
		{1, 2, []api.Entry{put("a\x00", 1), put("aa", 1), put(long, 1)}},
		{0, 0, nil},
		{-1, 0, []api.Entry{put("c", -1)}},
		{-2, 0, []api.Entry{put("c", least)}},
		{least, greatest, []api.Entry{put("c", least)}},
	} {
		wantVisible(t, "several keys", all, x.seq, x.now, x.want)
	}
}

// places: those of a list that stand at some places.
func places(of []api.Entry, at ...int) []api.Entry {
	var l []api.Entry
	for _, i := range at {
		l = append(l, of[i])
	}
	return l
}

// TestCompactSnaps: of a key the first entry, and for each snap the first whose Seq is at most it.
func TestCompactSnaps(t *testing.T) {
	of := []api.Entry{put("b", 9), gone("b", 7), until("b", 5, 1), put("b", 3)}
	edges := []api.Entry{put("b", greatest), put("b", greatest-1), put("b", 0), put("b", -1), put("b", least)}
	for _, x := range []struct {
		of    []api.Entry
		snaps []int64
		want  []int
	}{
		{of, nil, []int{0}},
		{of, []int64{}, []int{0}},
		{of, []int64{greatest}, []int{0}}, {of, []int64{10}, []int{0}}, {of, []int64{9}, []int{0}},
		{of, []int64{8}, []int{0, 1}}, {of, []int64{7}, []int{0, 1}},
		{of, []int64{6}, []int{0, 2}}, {of, []int64{5}, []int{0, 2}},
		{of, []int64{4}, []int{0, 3}}, {of, []int64{3}, []int{0, 3}},
		{of, []int64{2}, []int{0}}, {of, []int64{0}, []int{0}}, {of, []int64{-1}, []int{0}}, {of, []int64{least}, []int{0}},
		{of, []int64{5, 7}, []int{0, 1, 2}}, {of, []int64{7, 5}, []int{0, 1, 2}},
		{of, []int64{3, 8}, []int{0, 1, 3}}, {of, []int64{8, 3}, []int{0, 1, 3}},
		{of, []int64{8, 7}, []int{0, 1}}, {of, []int64{7, 8, 7, 8}, []int{0, 1}},
		{of, []int64{6, 4}, []int{0, 2, 3}}, {of, []int64{4, 4, 4, 6, 6}, []int{0, 2, 3}},
		{of, []int64{greatest, least, 2, 10, 9}, []int{0}},
		{of, []int64{3, 9, 5, 7}, []int{0, 1, 2, 3}}, {of, []int64{8, 6, 4, 2}, []int{0, 1, 2, 3}}, {of, []int64{4, 2, 8, 6, 4, 2}, []int{0, 1, 2, 3}},
		{edges, nil, []int{0}}, {edges, []int64{greatest}, []int{0}}, {edges, []int64{greatest - 1}, []int{0, 1}}, {edges, []int64{greatest - 2}, []int{0, 2}},
		{edges, []int64{0}, []int{0, 2}}, {edges, []int64{-1}, []int{0, 3}}, {edges, []int64{-2}, []int{0, 4}}, {edges, []int64{least}, []int{0, 4}},
		{edges, []int64{least, 1, greatest}, []int{0, 2, 4}},
	} {
		want := places(x.of, x.want...)
		for _, now := range []int64{least, 0, 1, 2, greatest} {
			wantCompact(t, "one key", x.of, x.snaps, now, false, want)
			a, c := put("a", 4), gone("c", -4)
			around := append(append([]api.Entry{a}, x.of...), c)
			wantCompact(t, "one key between others", around, x.snaps, now, false, append(append([]api.Entry{a}, want...), c))
		}
	}
	for _, bottom := range []bool{false, true} {
		wantCompact(t, "nothing", nil, []int64{1, 2}, 0, bottom, nil)
		wantCompact(t, "an empty list", []api.Entry{}, nil, 0, bottom, nil)
	}
}

// TestCompactBottom: of what is left of a key those that aren't alive are dropped from the last one on, up to the first that is.
func TestCompactBottom(t *testing.T) {
	g := func(seq int64) api.Entry { return gone("k", seq) }
	p := func(seq int64) api.Entry { return put("k", seq) }
	u := func(seq, at int64) api.Entry { return until("k", seq, at) }
	all := []int64{1, 2, 3, 4}
	for _, x := range []struct {
		of    []api.Entry
		snaps []int64
		now   int64
		want  []int
	}{
		{[]api.Entry{p(4)}, nil, 0, []int{0}},
		{[]api.Entry{g(4)}, nil, 0, nil},
		{[]api.Entry{u(4, 10)}, nil, 9, []int{0}},
		{[]api.Entry{u(4, 10)}, nil, 10, []int{0}},
		{[]api.Entry{u(4, 10)}, nil, 11, nil},
		{[]api.Entry{u(4, -3)}, nil, -3, []int{0}},
		{[]api.Entry{u(4, -3)}, nil, 0, nil},
		{[]api.Entry{g(4), g(3), g(2)}, nil, 0, nil},
		{[]api.Entry{g(4), g(3), g(2)}, all, 0, nil},
		{[]api.Entry{g(4), u(3, 1), g(2), u(1, 5)}, all, 6, nil},
		{[]api.Entry{g(4), u(3, 1), g(2), u(1, 5)}, all, 5, []int{0, 1, 2, 3}},
		{[]api.Entry{p(4), g(3), g(2)}, all, 0, []int{0}},
		{[]api.Entry{p(4), g(3), p(2)}, all, 0, []int{0, 1, 2}},
		{[]api.Entry{g(4), p(3), g(2)}, all, 0, []int{0, 1}},
		{[]api.Entry{g(4), p(3), g(2)}, []int64{2}, 0, nil},
		{[]api.Entry{g(4), p(3), g(2)}, []int64{3}, 0, []int{0, 1}},
		{[]api.Entry{g(4), p(3), g(2), p(1)}, []int64{1}, 0, []int{0, 3}},
		{[]api.Entry{g(4), p(3), g(2), p(1)}, []int64{2}, 0, nil},
		{[]api.Entry{g(4), p(3), g(2), p(1)}, []int64{2, 1}, 0, []int{0, 2, 3}},
		{[]api.Entry{g(4), p(3), g(2), p(1)}, nil, 0, nil},
		{[]api.Entry{p(4), p(3), g(2), p(1)}, nil, 0, []int{0}},
		{[]api.Entry{p(4), u(3, 2), g(2), u(1, 1)}, all, 1, []int{0, 1, 2, 3}},
		{[]api.Entry{p(4), u(3, 2), g(2), u(1, 1)}, all, 2, []int{0, 1}},
		{[]api.Entry{p(4), u(3, 2), g(2), u(1, 1)}, all, 3, []int{0}},
	} {
		want := places(x.of, x.want...)
		wantCompact(t, "one key", x.of, x.snaps, x.now, true, want)
		j, l := put("j", 4), []api.Entry{put("l", 5), gone("l", 1)}
		around := slices.Concat([]api.Entry{gone("i", 1), j}, x.of, l)
		wantCompact(t, "one key between others", around, append([]int64{5}, x.snaps...), x.now, true, slices.Concat([]api.Entry{j}, want, l[:1]))
	}
}

// TestAgain: what Compact leaves is left by it again.
func TestAgain(t *testing.T) {
	all := row()
	for _, snaps := range [][]int64{nil, {8}, {greatest - 1, 0, -4}, {7, 7, 9, 2}} {
		for _, bottom := range []bool{false, true} {
			left := Compact(all, snaps, 6, bottom)
			wantCompact(t, "what it left", left, snaps, 6, bottom, slices.Clone(left))
		}
	}
}

// TestMemory: an answer has no memory of what was handed in, nor of another answer, texts neither.
func TestMemory(t *testing.T) {
	bytes := []byte("keyvalue")
	key, value := unsafe.String(&bytes[0], 3), unsafe.String(&bytes[3], 5)
	list := []api.Entry{{Key: key, Seq: 2, Value: value}, {Key: key, Seq: 1, Value: value}}
	calls := map[string]func() []api.Entry{
		"P13.1: Merge of one":     func() []api.Entry { return Merge(list) },
		"P13.1: Merge of two":     func() []api.Entry { return Merge(list[1:], list[:1]) },
		"P13.2: Visible":          func() []api.Entry { return Visible(list, greatest, 0) },
		"P13.3: Compact":          func() []api.Entry { return Compact(list, []int64{1}, 0, false) },
		"P13.3: Compact, bottom":  func() []api.Entry { return Compact(list, []int64{1}, 0, true) },
		"P13.3: Compact, no snap": func() []api.Entry { return Compact(list, nil, 0, true) },
	}
	answers := map[string][]api.Entry{}
	seen := map[*byte]bool{}
	for what, call := range calls {
		for _, e := range call() {
			for _, s := range []string{e.Key, e.Value} {
				if seen[unsafe.StringData(s)] {
					t.Errorf("%s: the memory of %q is another answer's too", what, s)
				}
				seen[unsafe.StringData(s)] = true
			}
		}
		answers[what] = call()
		list[0].Seq, list[1].Seq = 4, 3
		if answers[what][0].Seq != 2 {
			t.Errorf("%s has the memory of what was handed in", what)
		}
		list[0].Seq, list[1].Seq = 2, 1
	}
	copy(bytes, "zzzzzzzz")
	for what, l := range answers {
		for _, e := range l {
			if e.Key != "key" || e.Value != "value" {
				t.Errorf("%s has the memory of texts that were handed in: %+v", what, e)
			}
		}
	}
}

// TestOutOfOrder: of entries that aren't in order nothing is promised but that a call ends, and changes nothing of them.
func TestOutOfOrder(t *testing.T) {
	back := row()
	slices.Reverse(back)
	for _, l := range [][]api.Entry{back, {put("a", 1), put("a", 1)}, {put("a", 1), put("a", 2), put("a", 1)}, {put("b", 1), put("a", 1), put("b", 1), put("b", 2)}} {
		handed := roomy(l, other)
		for range 2 {
			Merge(handed, row(), handed)
			Visible(handed, 2, 0)
			Compact(handed, []int64{2, 1}, 0, false)
			Compact(handed, []int64{2, 1}, 0, true)
			wantKept(t, "P1: a call with entries out of order", handed, l, other)
		}
	}
}

// TestMany: many lists, keys and snaps are gone through without going through all of the others for each.
func TestMany(t *testing.T) {
	const many = 200000
	lists := make([][]api.Entry, many/4)
	var all []api.Entry
	for i := range many {
		e := api.Entry{Key: fmt.Sprintf("%06d", i/2), Seq: int64(many - i)}
		all = append(all, e)
		lists[i*7%len(lists)] = append(lists[i*7%len(lists)], e)
	}
	wantEntries(t, "P13.1: Merge of many lists", Merge(lists...), all)
	var snaps, some []int64
	for i := range int64(many) {
		snaps = append(snaps, (i*77777)%many)
		if i%3 == 0 {
			some = append(some, i+1)
		}
	}
	slices.Reverse(some)
	wantEntries(t, "P13.3: Compact with many snaps", Compact(all, snaps, 0, true), all)
	var one, first []api.Entry
	for i := range int64(many) {
		one = append(one, api.Entry{Key: "k", Seq: many - i})
		if i == 0 || (many-i)%3 == 1 {
			first = append(first, one[i])
		}
	}
	wantEntries(t, "P13.3: Compact of one key with many snaps", Compact(one, some, 0, true), first)
	wantEntries(t, "P13.2: Visible of many keys", Visible(all, 0, 0), nil)
	wantEntries(t, "P13.2: Visible of many entries of a key", Visible(one, 1, 0), one[many-1:])
}
