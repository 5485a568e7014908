package pick

import (
	"fmt"
	"math"
	"slices"
	"strings"
	"testing"

	"oxbow/api"
	"oxbow/version"
)

const (
	least    = math.MinInt64
	greatest = math.MaxInt64
	leastInt = math.MinInt
	mostInt  = math.MaxInt
)

// cursors of all levels.
type cursors = [api.Levels]string

// small: limits by which two tables of level 0 are too many, and any table from 11 bytes on in level 1, from 101 in level 2.
var small = Limits{2, 10, 10}

// place: a table of one byte.
func place(level int, file int64, lo, hi string) version.Place { return sized(level, file, 1, lo, hi) }

func sized(level int, file, size int64, lo, hi string) version.Place {
	return version.Place{Level: level, Meta: version.Meta{File: file, Size: size, Lo: lo, Hi: hi}}
}

// made: a version of these tables.
func made(t *testing.T, tables ...version.Place) version.Version {
	t.Helper()
	v, e := version.Version{}.Apply(version.Edit{Add: tables, Next: greatest})
	if e != api.OK {
		t.Fatalf("%s are no version: %d", said(tables), e)
	}
	return v
}

// stranger stands behind the length of each list of tables that a test hands in; it would fill any level, and is over any span.
var stranger = version.Meta{File: 77, Size: greatest, Lo: "", Hi: "\xff\xff"}

// roomy: a copy of a version, with tables behind the lengths of its lists that would be seen, if they were read, and missed, if they were written on.
func roomy(v version.Version) version.Version {
	for level, l := range v.Levels {
		all := append(slices.Clone(l), stranger, stranger, stranger)
		v.Levels[level] = all[:len(l)]
	}
	return v
}

// said: a thing in few words, the first ones of many, in quotes, as keys are any bytes.
func said(what any) string { return fmt.Sprintf("%.1000q", fmt.Sprintf("%+v", what)) }

// wantKept: a version that was handed in is as it was, also behind the lengths of its lists.
func wantKept(t *testing.T, what string, handed, was version.Version) {
	t.Helper()
	strangers := []version.Meta{stranger, stranger, stranger}
	for level, l := range was.Levels {
		if !slices.Equal(handed.Levels[level], l) || !slices.Equal(handed.Levels[level][len(l):len(l)+3], strangers) {
			t.Errorf("%s changes level %d of the version: %s, not %s", what, level, said(handed.Levels[level]), said(l))
		}
	}
	if handed.Log != was.Log || handed.Next != was.Next || handed.Seq != was.Seq {
		t.Errorf("%s changes the numbers of the version", what)
	}
}

func wantRoom(t *testing.T, l Limits, level int, want int64) {
	t.Helper()
	for range 2 {
		if n := l.Room(level); n != want {
			t.Errorf("P15.1: Room(%d) of %+v is %d, not %d", level, l, n, want)
		}
	}
}

func wantFull(t *testing.T, what string, l Limits, v version.Version, level int, want bool) {
	t.Helper()
	handed := roomy(v)
	for range 2 {
		if is := l.Full(handed, level); is != want {
			t.Errorf("P15.1: %s: Full of level %d by %+v is %t", what, level, l, is)
		}
		wantKept(t, "P15.1: Full", handed, v)
	}
}

func sameJob(a, b Job) bool {
	return a.Level == b.Level && slices.Equal(a.From, b.From) && slices.Equal(a.To, b.To) && a.Bottom == b.Bottom
}

// written: what is written into a list, also behind its length, isn't seen in the other one.
func written(t *testing.T, what string, l, other []int64) {
	t.Helper()
	was := slices.Clone(other)
	l = l[:cap(l)]
	for i := range l {
		l[i] = -7
	}
	if !slices.Equal(other, was) {
		t.Errorf("P15.2: %s share memory", what)
	}
}

// wantPick: Pick tells this job, a second time too, and changes nothing that was handed in; what is done to its answer is done to nothing else.
func wantPick(t *testing.T, what string, v version.Version, l Limits, c cursors, want Job, is bool) {
	t.Helper()
	handed := roomy(v)
	for range 2 {
		job, ok := Pick(handed, l, c)
		if !sameJob(job, want) || ok != is {
			t.Errorf("P15.2: %s: Pick by %+v with the cursors %q of %s is %s, %t, not %s, %t", what, l, c, said(v.Levels), said(job), ok, said(want), is)
		}
		written(t, "From and To", job.From, job.To)
		written(t, "To and From", job.To, job.From)
		wantKept(t, "P15.2: Pick", handed, v)
	}
}

func TestExample(t *testing.T) {
	v := made(t, place(0, 4, "a", "c"), place(0, 5, "b", "f"), place(1, 3, "e", "k"))
	wantPick(t, "the example", v, Limits{Zero: 2}, cursors{}, Job{0, []int64{5, 4}, []int64{3}, true}, true)
}

func TestRoom(t *testing.T) {
	for _, x := range []struct {
		l    Limits
		want [3]int64 // of the levels 1 to 3
	}{
		{Limits{4, 1000, 10}, [3]int64{1000, 10000, 100000}},
		{Limits{4, 7, 3}, [3]int64{7, 21, 63}},
		{Limits{4, 7, 1}, [3]int64{7, 7, 7}},
		{Limits{4, 1, 7}, [3]int64{1, 7, 49}},
		{Limits{4, 1, 1}, [3]int64{1, 1, 1}},
		{Limits{0, 2, 2}, [3]int64{2, 4, 8}},
		{Limits{least, 2, 2}, [3]int64{2, 4, 8}},
		// Numbers below 1 count as 1.
		{Limits{}, [3]int64{1, 1, 1}},
		{Limits{4, 0, 5}, [3]int64{1, 5, 25}},
		{Limits{4, -1, 5}, [3]int64{1, 5, 25}},
		{Limits{4, least, 5}, [3]int64{1, 5, 25}},
		{Limits{4, 5, 0}, [3]int64{5, 5, 5}},
		{Limits{4, 5, -1}, [3]int64{5, 5, 5}},
		{Limits{4, 5, -2}, [3]int64{5, 5, 5}},
		{Limits{4, 5, least}, [3]int64{5, 5, 5}},
		{Limits{4, -3, -3}, [3]int64{1, 1, 1}},
		{Limits{4, least, least}, [3]int64{1, 1, 1}},
		// The room is at most 2^60.
		{Limits{4, 1<<60 - 1, 1}, [3]int64{1<<60 - 1, 1<<60 - 1, 1<<60 - 1}},
		{Limits{4, 1 << 60, 1}, [3]int64{1 << 60, 1 << 60, 1 << 60}},
		{Limits{4, 1<<60 + 1, 1}, [3]int64{1 << 60, 1 << 60, 1 << 60}},
		{Limits{4, 1 << 60, 2}, [3]int64{1 << 60, 1 << 60, 1 << 60}},
		{Limits{4, greatest, 1}, [3]int64{1 << 60, 1 << 60, 1 << 60}},
		{Limits{4, greatest, greatest}, [3]int64{1 << 60, 1 << 60, 1 << 60}},
		{Limits{4, greatest, least}, [3]int64{1 << 60, 1 << 60, 1 << 60}},
		{Limits{4, 1, 1<<30 - 1}, [3]int64{1, 1<<30 - 1, 1<<60 - 1<<31 + 1}},
		{Limits{4, 1, 1 << 30}, [3]int64{1, 1 << 30, 1 << 60}},
		{Limits{4, 1, 1<<30 + 1}, [3]int64{1, 1<<30 + 1, 1 << 60}},
		{Limits{4, 1, 1<<60 - 1}, [3]int64{1, 1<<60 - 1, 1 << 60}},
		{Limits{4, 1, 1 << 60}, [3]int64{1, 1 << 60, 1 << 60}},
		{Limits{4, 1, 1<<60 + 1}, [3]int64{1, 1 << 60, 1 << 60}},
		{Limits{4, 1, greatest}, [3]int64{1, 1 << 60, 1 << 60}},
		{Limits{4, 2, greatest}, [3]int64{2, 1 << 60, 1 << 60}},
		{Limits{4, 0, greatest}, [3]int64{1, 1 << 60, 1 << 60}},
		{Limits{4, 1 << 59, 2}, [3]int64{1 << 59, 1 << 60, 1 << 60}},
		{Limits{4, 1<<59 - 1, 2}, [3]int64{1<<59 - 1, 1<<60 - 2, 1 << 60}},
		{Limits{4, 1 << 58, 2}, [3]int64{1 << 58, 1 << 59, 1 << 60}},
		{Limits{4, 1<<58 - 1, 2}, [3]int64{1<<58 - 1, 1<<59 - 2, 1<<60 - 4}},
		{Limits{4, 1<<58 + 1, 2}, [3]int64{1<<58 + 1, 1<<59 + 2, 1 << 60}},
		// 2^60 is 1152921504606846976, so no multiple of 3.
		{Limits{4, 384307168202282325, 3}, [3]int64{384307168202282325, 1<<60 - 1, 1 << 60}},
		{Limits{4, 384307168202282326, 3}, [3]int64{384307168202282326, 1 << 60, 1 << 60}},
		{Limits{4, 3, 619925131}, [3]int64{3, 3 * 619925131, 3 * 619925131 * 619925131}},
		{Limits{4, 3, 619925132}, [3]int64{3, 3 * 619925132, 1 << 60}},
		// Products that are small again, or below 0, in 64 bits.
		{Limits{4, 1 << 32, 1 << 32}, [3]int64{1 << 32, 1 << 60, 1 << 60}},
		{Limits{4, 3, 1 << 32}, [3]int64{3, 3 << 32, 1 << 60}},
		{Limits{4, 1 << 59, 16}, [3]int64{1 << 59, 1 << 60, 1 << 60}},
		{Limits{4, 1 << 59, 32}, [3]int64{1 << 59, 1 << 60, 1 << 60}},
		{Limits{4, 5, 1 << 62}, [3]int64{5, 1 << 60, 1 << 60}},
	} {
		for i, n := range x.want {
			wantRoom(t, x.l, i+1, n)
		}
		for _, level := range []int{0, -1, -2, -3, leastInt, api.Levels, api.Levels + 1, 64, mostInt} {
			wantRoom(t, x.l, level, 0)
		}
	}
}

// noLevels: numbers of levels that there aren't.
var noLevels = []int{-1, -2, leastInt, api.Levels, api.Levels + 1, mostInt}

// TestFullZero: level 0, by how many tables it has, whatever their sizes.
func TestFullZero(t *testing.T) {
	var l []version.Place
	for n := range 6 {
		v := made(t, l...)
		for _, x := range []struct {
			zero int
			want bool
		}{
			{n, n > 0}, {n + 1, false}, {n - 1, n > 0}, {mostInt, false}, {1, n > 0}, {2, n > 1}, {5, n > 4},
			{0, n > 0}, {-1, n > 0}, {-5, n > 0}, {leastInt, n > 0},
		} {
			for _, others := range []Limits{{}, {0, 1, 1}, {0, greatest, greatest}, {0, least, least}} {
				others.Zero = x.zero
				wantFull(t, fmt.Sprint(n, " tables"), others, v, 0, x.want)
			}
		}
		l = append(l, sized(0, int64(n), int64(n*1000), "a", "b"))
	}
	for _, size := range []int64{0, 1, greatest} {
		v := made(t, sized(0, 1, size, "a", "b"))
		wantFull(t, "one table", Limits{2, 1, 1}, v, 0, false)
		wantFull(t, "one table", Limits{1, 1, 1}, v, 0, true)
	}
}

// ofSizes: a version with tables of these sizes in one level.
func ofSizes(t *testing.T, level int, sizes ...int64) version.Version {
	t.Helper()
	var l []version.Place
	for i, n := range sizes {
		l = append(l, sized(level, int64(i), n, string(rune('a'+i)), string(rune('a'+i))))
	}
	return made(t, l...)
}

// TestFullSizes: a level from 1 to the last but one, by the sizes of its tables together.
func TestFullSizes(t *testing.T) {
	for _, x := range []struct {
		level int
		l     Limits
		sizes []int64
		want  bool
	}{
		{1, small, nil, false}, {1, small, []int64{0}, false}, {1, small, []int64{9}, false}, {1, small, []int64{10}, false}, {1, small, []int64{11}, true},
		{1, small, []int64{5, 5}, false}, {1, small, []int64{5, 6}, true}, {1, small, []int64{6, 5}, true}, {1, small, []int64{10, 0, 0}, false}, {1, small, []int64{10, 0, 1}, true},
		{1, small, []int64{0, 0, 11, 0}, true}, {1, small, []int64{3, 3, 3}, false}, {1, small, []int64{1, 2, 3, 4}, false}, {1, small, []int64{1, 2, 3, 4, 1}, true},
		{2, small, nil, false}, {2, small, []int64{11}, false}, {2, small, []int64{100}, false}, {2, small, []int64{101}, true},
		{2, small, []int64{50, 50}, false}, {2, small, []int64{50, 51}, true}, {2, small, []int64{99, 1, 0, 1}, true},
		// Numbers below 1 count as 1.
		{1, Limits{}, []int64{0, 0}, false}, {1, Limits{}, []int64{1}, false}, {1, Limits{}, []int64{1, 1}, true}, {1, Limits{}, []int64{2}, true},
		{2, Limits{}, []int64{1}, false}, {2, Limits{}, []int64{2}, true}, {2, Limits{}, []int64{0, 1, 0, 1}, true},
		{1, Limits{0, least, 9}, []int64{1}, false}, {1, Limits{0, -5, 9}, []int64{2}, true},
		{2, Limits{0, -5, 9}, []int64{9}, false}, {2, Limits{0, -5, 9}, []int64{10}, true},
		{2, Limits{0, 9, least}, []int64{9}, false}, {2, Limits{0, 9, -1}, []int64{10}, true}, {2, Limits{0, 9, 0}, []int64{4, 6}, true},
		// However many tables: only sizes count.
		{1, Limits{1, 10, 10}, []int64{1, 1, 1, 1, 1}, false}, {2, Limits{1, 10, 10}, []int64{1, 1, 1, 1, 1}, false},
		// As much as there may be.
		{1, Limits{0, 1<<60 - 1, 1}, []int64{1<<60 - 1}, false}, {1, Limits{0, 1<<60 - 1, 1}, []int64{1 << 60}, true},
		{1, Limits{0, 1 << 60, 1}, []int64{1 << 60}, false}, {1, Limits{0, greatest, 1}, []int64{1 << 59, 1 << 59}, false},
		{2, Limits{0, 1, 1<<60 - 1}, []int64{1 << 59, 1 << 59}, true}, {2, Limits{0, 1, 1 << 60}, []int64{1 << 59, 1 << 59}, false}, {2, Limits{0, greatest, greatest}, []int64{1<<60 - 1, 1}, false},
		// The room is at most 2^60, so more than that is full.
		{1, Limits{0, greatest, 1}, []int64{1<<60 + 1}, true}, {2, Limits{0, greatest, greatest}, []int64{1 << 60, 1}, true}, {1, Limits{0, greatest, 1}, []int64{greatest, greatest, 2}, true},
	} {
		v := ofSizes(t, x.level, x.sizes...)
		wantFull(t, fmt.Sprint(x.sizes), x.l, v, x.level, x.want)
		// Its tables are those of no other level.
		for level := range api.Levels {
			if level != x.level {
				wantFull(t, fmt.Sprint("another level has ", x.sizes), x.l, v, level, false)
			}
		}
	}
}

// TestFullNever: the last level, and such as there aren't.
func TestFullNever(t *testing.T) {
	for _, l := range []Limits{{}, small, {1, 1, 1}, {leastInt, least, least}} {
		for _, sizes := range [][]int64{nil, {0}, {2}, {1 << 60}, {1 << 59, 1 << 59}, {1, 1, 1, 1, 1, 1}} {
			wantFull(t, fmt.Sprint(sizes), l, ofSizes(t, api.Levels-1, sizes...), api.Levels-1, false)
		}
		v := made(t, allFull...)
		for _, level := range noLevels {
			wantFull(t, "no level", l, v, level, false)
			wantFull(t, "no level", l, version.Version{}, level, false)
		}
		wantFull(t, "the last level", l, v, api.Levels-1, false)
	}
}

// allFull: tables by which each level is full that can be, by small.
var allFull = []version.Place{
	place(0, 1, "c", "d"), place(0, 2, "a", "b"), sized(1, 3, 11, "a", "c"), sized(1, 4, 11, "x", "z"), sized(2, 5, 101, "b", "d"), sized(2, 6, 101, "y", "y"), sized(3, 7, 5000, "c", "c"),
}

// ofLevels: the tables of some levels.
func ofLevels(l []version.Place, levels ...int) []version.Place {
	return slices.DeleteFunc(slices.Clone(l), func(p version.Place) bool { return !slices.Contains(levels, p.Level) })
}

// TestLevel: the least level that is full, whatever the others are.
func TestLevel(t *testing.T) {
	none := cursors{}
	wantPick(t, "the none version", version.Version{}, small, none, Job{}, false)
	wantPick(t, "the none version", version.Version{}, Limits{}, none, Job{}, false)
	wantPick(t, "the none version with numbers", version.Version{Log: 3, Next: 4, Seq: 5}, Limits{leastInt, least, least}, none, Job{}, false)
	wantPick(t, "no level is full", made(t, place(0, 1, "a", "b"), sized(1, 2, 10, "a", "b"), sized(2, 3, 100, "a", "b"), sized(3, 4, 9999, "a", "b")), small, cursors{"a", "a", "a", "a"}, Job{}, false)
	wantPick(t, "all are full, by other limits", made(t, allFull...), Limits{3, 22, 10}, none, Job{}, false)
	for _, x := range []struct {
		levels []int
		want   Job
		is     bool
	}{
		{nil, Job{}, false},
		{[]int{3}, Job{}, false},
		{[]int{2}, Job{2, []int64{5}, nil, true}, true},
		{[]int{2, 3}, Job{2, []int64{5}, []int64{7}, true}, true},
		{[]int{1}, Job{1, []int64{3}, nil, true}, true},
		{[]int{1, 2}, Job{1, []int64{3}, []int64{5}, true}, true},
		{[]int{1, 3}, Job{1, []int64{3}, nil, false}, true},
		{[]int{1, 2, 3}, Job{1, []int64{3}, []int64{5}, false}, true},
		{[]int{0}, Job{0, []int64{2, 1}, nil, true}, true},
		{[]int{0, 1}, Job{0, []int64{2, 1}, []int64{3}, true}, true},
		{[]int{0, 2}, Job{0, []int64{2, 1}, nil, false}, true},
		{[]int{0, 3}, Job{0, []int64{2, 1}, nil, false}, true},
		{[]int{0, 1, 2, 3}, Job{0, []int64{2, 1}, []int64{3}, false}, true},
	} {
		wantPick(t, fmt.Sprint("full are ", x.levels), made(t, ofLevels(allFull, x.levels...)...), small, none, x.want, x.is)
	}
	// One at its bound, and one above it.
	v := made(t, place(0, 1, "a", "b"), sized(1, 2, 11, "a", "b"), sized(2, 3, 101, "a", "b"))
	wantPick(t, "level 0 has one too few", v, Limits{2, 11, 9}, none, Job{2, []int64{3}, nil, true}, true)
	wantPick(t, "level 1 has one too many", v, Limits{2, 10, 100}, none, Job{1, []int64{2}, []int64{3}, true}, true)
	wantPick(t, "level 0 has as many as are too many", v, Limits{1, 10, 10}, none, Job{0, []int64{1}, []int64{2}, false}, true)
	wantPick(t, "Zero below 1", v, Limits{-4, 1000, 10}, none, Job{0, []int64{1}, []int64{2}, false}, true)
}

// TestFromZero: of level 0 all, by falling files, whatever the cursors.
func TestFromZero(t *testing.T) {
	v := made(t, place(0, 4, "d", "e"), place(0, 9, "a", "b"), place(0, 0, "k", "p"), place(0, 7, "a", "b"), place(0, 8, "zz", "zz"))
	for _, c := range []cursors{{}, {"a", "a", "a", "a"}, {"e"}, {"zzz", "zzz", "zzz", "zzz"}, {"\xff\xff\xff"}} {
		for _, zero := range []int{leastInt, 0, 1, 4, 5} {
			wantPick(t, "level 0", v, Limits{zero, 10, 10}, c, Job{0, []int64{9, 8, 7, 4, 0}, nil, true}, true)
		}
		wantPick(t, "level 0", v, Limits{6, 10, 10}, c, Job{}, false)
	}
	wantPick(t, "one table", made(t, place(0, 0, "", "")), Limits{}, cursors{}, Job{0, []int64{0}, nil, true}, true)
}

// TestFrom: of another level the first table whose Lo is above its own cursor; its Hi, and the other cursors, count for nothing.
func TestFrom(t *testing.T) {
	long := strings.Repeat("k", 70000)
	for level := 1; level < api.Levels-1; level++ {
		v := made(t, sized(level, 5, 100, "b", "d"), sized(level, 9, 1, "d\x00", "g"), sized(level, 2, 0, "k", "k"), sized(level, 7, 100, "\x80", "\xff"))
		for cursor, want := range map[string]int64{
			"": 5, "\x00": 5, "a": 5, "azzz": 5, "b": 9, "b\x00": 9, "c": 9, "d": 9, "d\x00": 2, "d\x00\x00": 2, "e": 2, "g": 2, "g\xff": 2, "j": 2, "j\xff": 2,
			"k": 7, "k\x00": 7, "m": 7, long: 7, "\x7f": 7, "\x7f\xff": 7, "\x80": 5, "\x80\x00": 5, "\xc0": 5, "\xff": 5, "\xff\xff": 5,
		} {
			for _, other := range []string{"", "b", "\xff\xff"} {
				c := cursors{other, other, other, other}
				c[level] = cursor
				wantPick(t, "a cursor", v, small, c, Job{level, []int64{want}, nil, true}, true)
			}
		}
		one := made(t, sized(level, 3, 101, "m", "n"))
		for _, cursor := range []string{"", "l", "m", "n", "z", long} {
			c := cursors{}
			c[level] = cursor
			wantPick(t, "one table", one, small, c, Job{level, []int64{3}, nil, true}, true)
		}
		// No Lo is above itself, the empty one neither.
		empty := made(t, sized(level, 3, 100, "", "a"), sized(level, 4, 100, "b", "c"))
		wantPick(t, "an empty Lo", empty, small, cursors{}, Job{level, []int64{4}, nil, true}, true)
		wantPick(t, "an empty Lo", empty, small, cursors{"b", "b", "b", "b"}, Job{level, []int64{3}, nil, true}, true)
	}
}

// TestCursors: cursors that are set to the Lo of what was picked let all tables come, one behind the other, and then anew.
func TestCursors(t *testing.T) {
	v := made(t, sized(1, 5, 4, "b", "d"), sized(1, 9, 4, "e", "g"), sized(1, 2, 4, "k", "k"))
	c := cursors{}
	lo := map[int64]string{5: "b", 9: "e", 2: "k"}
	for _, want := range []int64{5, 9, 2, 5, 9, 2, 5} {
		wantPick(t, "cursors", v, small, c, Job{1, []int64{want}, nil, true}, true)
		c[1] = lo[want]
	}
}

// neighbours: a row of tables about the span c..f, with their files: at an edge of it, within, around, and next to it.
func neighbours(level int) []version.Place {
	return []version.Place{
		place(level, 11, "", "a"), place(level, 18, "b", "c"), place(level, 13, "c\x00", "d"), place(level, 16, "e", "e"), place(level, 15, "f", "g"), place(level, 12, "h", "i"),
	}
}

func TestTo(t *testing.T) {
	from := sized(1, 1, 11, "c", "f")
	for _, x := range []struct {
		what string
		l    []version.Place
		want []int64
	}{
		{"none there", nil, nil},
		{"a row", neighbours(2), []int64{18, 13, 16, 15}},
		{"one to its left", []version.Place{place(2, 3, "a", "b\xff")}, nil},
		{"one to its left, which ends as it begins", []version.Place{place(2, 3, "a", "c")}, []int64{3}},
		{"one that is its first key", []version.Place{place(2, 3, "c", "c")}, []int64{3}},
		{"one that is its last key", []version.Place{place(2, 3, "f", "f")}, []int64{3}},
		{"one to its right, which begins as it ends", []version.Place{place(2, 3, "f", "z")}, []int64{3}},
		{"one to its right", []version.Place{place(2, 3, "f\x00", "z")}, nil},
		{"both next to it", []version.Place{place(2, 3, "a", "b\xff"), place(2, 4, "f\x00", "z")}, nil},
		{"both at its edges", []version.Place{place(2, 4, "a", "c"), place(2, 3, "f", "z")}, []int64{4, 3}},
		{"one around it", []version.Place{place(2, 3, "", "\xff")}, []int64{3}},
		{"one within it", []version.Place{place(2, 3, "d", "e")}, []int64{3}},
		{"the same span", []version.Place{place(2, 3, "c", "f")}, []int64{3}},
		{"one of level 3", []version.Place{place(3, 3, "f\x00", "z")}, nil},
		{"rows of level 2, and next to it of level 3", append(neighbours(2), place(3, 3, "", "a"), place(3, 4, "h", "z")), []int64{18, 13, 16, 15}},
		{"one of its own level", []version.Place{sized(1, 3, 11, "f\x00", "g")}, nil},
		{"one of level 0", []version.Place{place(0, 3, "c", "f")}, nil},
	} {
		wantPick(t, x.what, made(t, append([]version.Place{from}, x.l...)...), small, cursors{}, Job{1, []int64{1}, x.want, true}, true)
	}
	// Of level 2, the last but one.
	from.Level, from.Meta.Size = 2, 101
	wantPick(t, "a row of the last level", made(t, append(neighbours(3), from)...), small, cursors{}, Job{2, []int64{1}, []int64{18, 13, 16, 15}, true}, true)
}

// TestToOfZero: the span of level 0 is from the least Lo to the greatest Hi of all its tables, also where it has none of the keys between.
func TestToOfZero(t *testing.T) {
	for _, x := range []struct {
		what string
		l    []version.Place
	}{
		{"one behind the other", []version.Place{place(0, 1, "c", "c"), place(0, 2, "f", "f")}},
		{"and turned", []version.Place{place(0, 2, "c", "c"), place(0, 1, "f", "f")}},
		{"with a key in common", []version.Place{place(0, 1, "c", "e"), place(0, 2, "d", "f")}},
		{"and turned", []version.Place{place(0, 2, "c", "e"), place(0, 1, "d", "f")}},
		{"one around", []version.Place{place(0, 1, "d", "e"), place(0, 2, "c", "f")}},
		{"and turned", []version.Place{place(0, 2, "d", "e"), place(0, 1, "c", "f")}},
		{"alike", []version.Place{place(0, 2, "c", "f"), place(0, 1, "c", "f")}},
	} {
		job := Job{0, []int64{2, 1}, []int64{18, 13, 16, 15}, true}
		wantPick(t, x.what, made(t, append(neighbours(1), x.l...)...), small, cursors{}, job, true)
		job.To, job.Bottom = nil, false
		wantPick(t, x.what, made(t, append(neighbours(2), x.l...)...), small, cursors{}, job, true)
		job.Bottom = true
		wantPick(t, x.what, made(t, append([]version.Place{place(1, 8, "a", "b\xff"), place(1, 9, "f\x00", "g")}, x.l...)...), small, cursors{}, job, true)
	}
	l := []version.Place{place(0, 3, "d", "d"), place(0, 5, "f", "f"), place(0, 1, "e", "e"), place(0, 4, "c", "c"), place(0, 2, "d", "d")}
	wantPick(t, "five", made(t, append(neighbours(1), l...)...), small, cursors{}, Job{0, []int64{5, 4, 3, 2, 1}, []int64{18, 13, 16, 15}, true}, true)
}

// TestBottom: by a table that stands further down than what is merged, at the edges of all that is merged and next to it.
func TestBottom(t *testing.T) {
	zero := []version.Place{place(0, 1, "d", "d"), place(0, 2, "e", "f")}
	wide := []version.Place{place(1, 3, "c", "d"), place(1, 4, "f", "g")} // these make c..g of the span d..f
	one := []version.Place{sized(1, 5, 11, "d", "f")}
	below := []version.Place{place(2, 6, "c", "d"), place(2, 7, "f", "g")}
	for _, x := range []struct {
		what, lo, hi string
		narrow, wide bool // Bottom, if d..f is merged alone, and if c..g is
	}{
		{"to its left", "a", "b", true, true}, {"to its left, just", "a", "b\xff", true, true}, {"at the left edge", "a", "c", true, false},
		{"the first key", "c", "c", true, false}, {"where To alone is", "c\x00", "c\xff", true, false}, {"where both are", "d", "d", false, false},
		{"within", "d\x00", "d\xff", false, false}, {"between the tables", "dd", "dd", false, false}, {"around", "", "\xff", false, false},
		{"where both are, right", "f", "f", false, false}, {"where To alone is, right", "f\x00", "f\xff", true, false}, {"the last key", "g", "g", true, false},
		{"at the right edge", "g", "z", true, false}, {"to its right, just", "g\x00", "z", true, true}, {"to its right", "h", "z", true, true},
		{"the same", "c", "g", false, false}, {"the same as From", "d", "f", false, false}, {"the empty key", "", "", true, true},
	} {
		for level := 2; level < api.Levels; level++ {
			deep := place(level, 9, x.lo, x.hi)
			what := fmt.Sprint(x.what, " in level ", level)
			wantPick(t, what, made(t, append([]version.Place{deep}, zero...)...), small, cursors{}, Job{0, []int64{2, 1}, nil, x.narrow}, true)
			wantPick(t, what, made(t, append(append([]version.Place{deep}, zero...), wide...)...), small, cursors{}, Job{0, []int64{2, 1}, []int64{3, 4}, x.wide}, true)
		}
		deep := place(3, 9, x.lo, x.hi)
		wantPick(t, x.what, made(t, append([]version.Place{deep}, one...)...), small, cursors{}, Job{1, []int64{5}, nil, x.narrow}, true)
		wantPick(t, x.what, made(t, append(append([]version.Place{deep}, one...), below...)...), small, cursors{}, Job{1, []int64{5}, []int64{6, 7}, x.wide}, true)
	}
}

// TestBottomOfMany: several tables further down, of which one is enough; and such as aren't further down, or aren't merged, count for nothing.
func TestBottomOfMany(t *testing.T) {
	zero := []version.Place{place(0, 1, "d", "d"), place(0, 2, "e", "f")}
	for _, x := range []struct {
		what string
		l    []version.Place
		to   []int64
		want bool
	}{
		{"nothing", nil, nil, true},
		{"next to it on both sides, in both levels", []version.Place{place(2, 3, "a", "c"), place(2, 4, "g", "h"), place(3, 5, "", "c\xff"), place(3, 6, "f\x00", "z")}, nil, true},
		{"and one in level 2", []version.Place{place(2, 3, "a", "c"), place(2, 4, "g", "h"), place(2, 7, "e", "e"), place(3, 5, "", "c\xff"), place(3, 6, "f\x00", "z")}, nil, false},
		{"and one in level 3", []version.Place{place(2, 3, "a", "c"), place(2, 4, "g", "h"), place(3, 7, "e", "e"), place(3, 5, "", "c\xff"), place(3, 6, "f\x00", "z")}, nil, false},
		{"one of level 1 that isn't merged reaches it", []version.Place{place(1, 3, "g", "p"), place(2, 4, "k", "m"), place(3, 5, "k", "m")}, nil, true},
		{"one of level 1 that is merged reaches it", []version.Place{place(1, 3, "f", "p"), place(2, 4, "k", "m")}, []int64{3}, false},
		{"one of level 1 that is merged reaches it in level 3", []version.Place{place(1, 3, "a", "d"), place(3, 4, "b", "c")}, []int64{3}, false},
		{"To is within From", []version.Place{place(1, 3, "dd", "ee"), place(2, 4, "ee\x00", "f")}, []int64{3}, false},
		{"To is within From, the other is next to From", []version.Place{place(1, 3, "dd", "ee"), place(2, 4, "f\x00", "g")}, []int64{3}, true},
	} {
		wantPick(t, x.what, made(t, append(x.l, zero...)...), small, cursors{}, Job{0, []int64{2, 1}, x.to, x.want}, true)
	}
	// Of the last level but one there is none further down than where it is merged into.
	l := []version.Place{sized(2, 1, 101, "d", "f"), place(3, 2, "a", "d"), place(3, 3, "e", "z"), place(1, 4, "d", "f"), place(0, 5, "d", "f")}
	wantPick(t, "level 2", made(t, l...), small, cursors{}, Job{2, []int64{1}, []int64{2, 3}, true}, true)
	wantPick(t, "level 2 alone", made(t, l[0]), small, cursors{}, Job{2, []int64{1}, nil, true}, true)
}

// TestNotWritten: what is picked stands in the middle of its level's list, ahead of tables that it could be written over.
func TestNotWritten(t *testing.T) {
	for level := 1; level < api.Levels-1; level++ {
		v := made(t, sized(level, 1, 99, "a", "b"), sized(level, 2, 99, "c", "h"), sized(level, 3, 99, "k", "l"), sized(level, 4, 99, "m", "n"),
			place(level+1, 5, "b", "c"), place(level+1, 6, "d", "e"), place(level+1, 7, "f", "g"), place(level+1, 8, "h", "p"))
		c := cursors{"b", "b", "b", "b"}
		wantPick(t, "ahead of others", v, small, c, Job{level, []int64{2}, []int64{5, 6, 7, 8}, true}, true)
		// Also where the levels' lists have no room behind them.
		before := fmt.Sprint(v)
		if Pick(v, small, c); fmt.Sprint(v) != before {
			t.Errorf("P15.2: Pick makes of %q %s", before, said(v))
		}
	}
}

// TestAnyArguments: of versions that layer 14 doesn't make nothing is promised but that a call ends, and changes nothing of them.
func TestAnyArguments(t *testing.T) {
	for _, levels := range [][api.Levels][]version.Meta{
		{1: {{File: 1, Size: least}, {File: 1, Size: least}, {File: 1, Size: greatest}}},
		{1: {{File: least, Size: -1, Lo: "z", Hi: "a"}}, 2: {{File: 1, Size: 1000, Lo: "z", Hi: "a"}, {File: 1, Size: greatest}}},
		{0: {{Lo: "z", Hi: "a"}, {Lo: "z", Hi: "a"}}, 1: {{Lo: "z", Hi: "a"}}, 2: {{Lo: "m", Hi: "a"}}, 3: {{Lo: "b", Hi: ""}}},
		{1: {{Size: 1 << 62}, {Size: 1 << 62}, {Size: 1 << 62}, {Size: 1 << 62}}, 3: {{Size: greatest}}},
	} {
		v := version.Version{Levels: levels, Log: least, Next: -1, Seq: greatest}
		handed := roomy(v)
		for _, l := range []Limits{{}, small, {leastInt, least, least}, {mostInt, greatest, greatest}, {1, 1, greatest}} {
			for _, level := range append(noLevels, 0, 1, 2, 3) {
				l.Full(handed, level)
			}
			Pick(handed, l, cursors{"y", "y", "y", "y"})
			wantKept(t, "P1: a call", handed, v)
		}
	}
}

// TestMany: many tables are gone through without going through all of the others for each.
func TestMany(t *testing.T) {
	const many = 60000
	var l []version.Place
	var zero, first []int64
	for i := range int64(many) {
		key := fmt.Sprintf("%07d", i*7777%many)
		l = append(l, sized(int(i%4), i, 1, key, key))
	}
	v := made(t, l...)
	for _, m := range v.Levels[0] {
		zero = append(zero, m.File)
	}
	lo, hi := "9", ""
	for _, m := range v.Levels[0] {
		lo, hi = min(lo, m.Lo), max(hi, m.Hi)
	}
	for _, m := range v.Over(1, lo, hi) {
		first = append(first, m.File)
	}
	wantPick(t, "many", v, Limits{many / 4, 1, 1}, cursors{}, Job{0, zero, first, false}, true)
	wantPick(t, "many", v, Limits{many/4 + 1, many / 4, 1}, cursors{}, Job{}, false)
	last := v.Levels[1][len(v.Levels[1])-1]
	wantPick(t, "many", v, Limits{many/4 + 1, many/4 - 1, 1}, cursors{1: v.Levels[1][len(v.Levels[1])-2].Lo}, Job{1, []int64{last.File}, nil, true}, true)
}
