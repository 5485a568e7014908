package block

import (
	"encoding/hex"
	"fmt"
	"math"
	"slices"
	"strings"
	"testing"
	"unsafe"

	"oxbow/api"
	"oxbow/skip"
)

// put, gone: entries with a Seq, and nothing more than it takes to be good.
func put(key string, seq int64, value string) api.Entry {
	return api.Entry{Key: key, Seq: seq, Value: value}
}
func gone(key string, seq int64) api.Entry { return api.Entry{Key: key, Seq: seq, Gone: true} }

// from: the bytes that hexadecimal digits say; blanks don't count.
func from(t *testing.T, digits string) string {
	t.Helper()
	b, err := hex.DecodeString(strings.ReplaceAll(digits, " ", ""))
	if err != nil {
		t.Fatal(err)
	}
	return string(b)
}

func wantOrdered(t *testing.T, what string, entries []api.Entry, place int, why api.Errno) {
	t.Helper()
	was := slices.Clone(entries)
	if i, e := Ordered(entries); i != place || e != why {
		t.Errorf("P10.1: %s: Ordered is %d, %d, not %d, %d", what, i, e, place, why)
	}
	if !slices.Equal(entries, was) {
		t.Errorf("P10.1: %s: Ordered changes its entries", what)
	}
}

func wantBuild(t *testing.T, what string, entries []api.Entry, every int, want string, why api.Errno) {
	t.Helper()
	was := slices.Clone(entries)
	if s, e := Build(entries, every); s != want || e != why {
		t.Errorf("P10.2: %s: Build, of every %d, is %.200x, %d, not %.200x, %d", what, every, s, e, want, why)
	}
	if !slices.Equal(entries, was) {
		t.Errorf("P10.2: %s: Build changes its entries", what)
	}
}

func wantParse(t *testing.T, what, s string, want []api.Entry, why api.Errno) {
	t.Helper()
	if entries, e := Parse(s); !slices.Equal(entries, want) || e != why {
		t.Errorf("P10.3: %s: Parse(%.80x) is %.400v, %d, not %.400v, %d", what, s, entries, e, want, why)
	}
	if why != api.OK {
		wantFind(t, what, s, "g", math.MaxInt64, api.Entry{}, false, why)
	}
}

func wantFind(t *testing.T, what, s, key string, seq int64, want api.Entry, there bool, why api.Errno) {
	t.Helper()
	if entry, ok, e := Find(s, key, seq); entry != want || ok != there || e != why {
		t.Errorf("P10.4: %s: Find(%.80x, %.80q, %d) is %v, %t, %d, not %v, %t, %d", what, s, key, seq, entry, ok, e, want, there, why)
	}
}

// key, value: texts as long as they may be.
var (
	key   = strings.Repeat("k", 64)
	value = strings.Repeat("v", 512)
)

// row is good entries in order with a number every, and their bytes.
type row struct {
	entries []api.Entry
	every   int
	want    string
}

func rows() []row {
	hexKey, hexValue := strings.Repeat("6b", 64), strings.Repeat("76", 512)
	l := []row{
		{nil, 1, "00"},
		{[]api.Entry{}, 64, "00"},
		{[]api.Entry{put("a", 1, "")}, 1, "02  00 02 61 02 02 00"},
		{[]api.Entry{put("a", 1, "x")}, 64, "02  00 02 61 02 02 02 78"},
		{[]api.Entry{gone("a", 1)}, 16, "02  00 02 61 02 00"},
		{[]api.Entry{put("ab", 1, ""), put("ac", 1, "")}, 16, "04  00 04 61 62 02 02 00  02 02 63 02 02 00"},
		{[]api.Entry{put("ab", 1, ""), put("ac", 1, "")}, 2, "04  00 04 61 62 02 02 00  02 02 63 02 02 00"},
		{[]api.Entry{put("ab", 1, ""), put("ac", 1, "")}, 1, "04  00 04 61 62 02 02 00  00 04 61 63 02 02 00"},
		// One key more than once.
		{[]api.Entry{put("a", 3, "x"), gone("a", 1)}, 2, "04  00 02 61 06 02 02 78  02 00 02 00"},
		{[]api.Entry{put("a", 3, "x"), gone("a", 1)}, 1, "04  00 02 61 06 02 02 78  00 02 61 02 00"},
		{[]api.Entry{gone("abc", 9), put("abc", 8, ""), put("abd", 9, "")}, 64, "06  00 06 61 62 63 12 00  06 00 10 02 00  04 02 64 12 02 00"},
		// Keys that begin as others do, that are longer than the one ahead, or shorter.
		{[]api.Entry{gone("a", 1), gone("ab", 1), gone("abc", 1)}, 64, "06  00 02 61 02 00  02 02 62 02 00  04 02 63 02 00"},
		{[]api.Entry{gone("abc", 1), gone("b", 1), gone("bc", 1)}, 64, "06  00 06 61 62 63 02 00  00 02 62 02 00  02 02 63 02 00"},
		{[]api.Entry{gone("abcd", 1), gone("abd", 1), gone("abdcd", 1)}, 64, "06  00 08 61 62 63 64 02 00  04 02 64 02 00  06 04 63 64 02 00"},
		// What is alike behind a byte that isn't doesn't count, nor what an earlier one shares.
		{[]api.Entry{gone("abz", 1), gone("acz", 1)}, 64, "04  00 06 61 62 7a 02 00  02 04 63 7a 02 00"},
		{[]api.Entry{gone("aa", 1), gone("b", 1), gone("baa", 1)}, 64, "06  00 04 61 61 02 00  00 02 62 02 00  02 04 61 61 02 00"},
		// Of every second, of every third one the whole key.
		{[]api.Entry{gone("a", 5), gone("a", 4), gone("a", 3), gone("a", 2), gone("a", 1)}, 2, "0a  00 02 61 0a 00  02 00 08 00  00 02 61 06 00  02 00 04 00  00 02 61 02 00"},
		{[]api.Entry{gone("a", 5), gone("a", 4), gone("a", 3), gone("a", 2), gone("a", 1)}, 3, "0a  00 02 61 0a 00  02 00 08 00  02 00 06 00  00 02 61 04 00  02 00 02 00"},
		// The Seq, the Until.
		{[]api.Entry{gone("a", math.MaxInt64), gone("a", 64), gone("a", 63)}, 64, "06  00 02 61 fe ff ff ff ff ff ff ff ff 01 00  02 00 80 01 00  02 00 7e 00"},
		{[]api.Entry{{Key: "a", Seq: 1, Value: "x", Until: 1}}, 1, "02  00 02 61 02 04 02 78"},
		{[]api.Entry{{Key: "a", Seq: 1, Until: 62}, {Key: "b", Seq: 1, Until: 63}}, 9, "04  00 02 61 02 7e 00  00 02 62 02 80 01 00"},
		{[]api.Entry{{Key: "a", Seq: 1, Value: "x", Until: math.MaxInt64 - 1}}, 1, "02  00 02 61 02 fe ff ff ff ff ff ff ff ff 01 02 78"},
		{[]api.Entry{{Key: "a", Seq: 1, Until: math.MaxInt64 - 2}}, 1, "02  00 02 61 02 fc ff ff ff ff ff ff ff ff 01 00"},
		// Bytes of all kinds.
		{[]api.Entry{put("\x00", 1, "\x00\xff"), gone("\x00\x00", 1), gone("\x7f", 1), gone("\x80", 1), gone("\xff\x80", 1)}, 64,
			"0a  00 02 00 02 02 04 00 ff  02 02 00 02 00  00 02 7f 02 00  00 02 80 02 00  00 04 ff 80 02 00"},
		{[]api.Entry{gone("\u00e8", 1), gone("\u00e9", 1)}, 64, "04  00 04 c3 a8 02 00  02 02 a9 02 00"},
		// Texts as long as they may be.
		{[]api.Entry{put(key, 2, value), gone(key, 1)}, 64, "04  00 80 01" + hexKey + "04 02 80 08" + hexValue + "80 01 00 02 00"},
		{[]api.Entry{gone(key[1:], 1), put(key, 1, value[1:])}, 64, "04  00 7e" + hexKey[2:] + "02 00  7e 02 6b 02 02 fe 07" + hexValue[2:]},
		{[]api.Entry{gone(key[1:]+"j", 1), gone(key, 1)}, 1, "04  00 80 01" + hexKey[2:] + "6a 02 00  00 80 01" + hexKey + "02 00"},
	}
	return l
}

func TestExample(t *testing.T) {
	entries := []api.Entry{{Key: "ab", Seq: 1}, {Key: "ac", Seq: 1}}
	want := from(t, "04 00 04 61 62 02 02 00 02 02 63 02 02 00")
	wantBuild(t, "the example", entries, 16, want, api.OK)
	wantParse(t, "the example", want, entries, api.OK)
	wantFind(t, "the example", want, "ac", 1, entries[1], true, api.OK)
}

func TestBytes(t *testing.T) {
	for i, x := range rows() {
		what := fmt.Sprintf("row %d", i)
		want := from(t, x.want)
		wantOrdered(t, what, x.entries, 0, api.OK)
		wantBuild(t, what, x.entries, x.every, want, api.OK)
		wantParse(t, what, want, x.entries, api.OK)
	}
}

// falling: so many entries of one key, by falling Seq down to 1.
func falling(n int) []api.Entry {
	l := make([]api.Entry, n)
	for i := range l {
		l[i] = gone("k", int64(n-i))
	}
	return l
}

// TestEvery: with each number every the whole keys stand at its multiples, and nowhere else.
func TestEvery(t *testing.T) {
	for every := 1; every <= 64; every++ {
		for _, n := range []int{1, 63, every, every + 1, 2*every + 1} {
			var b strings.Builder
			b.Write(number(int64(n)))
			entries := falling(n)
			for i, entry := range entries {
				switch i % every {
				case 0:
					b.WriteString("\x00\x02k")
				default:
					b.WriteString("\x02\x00")
				}
				b.Write(number(entry.Seq))
				b.WriteByte(0)
			}
			what := fmt.Sprintf("%d entries", n)
			wantBuild(t, what, entries, every, b.String(), api.OK)
			wantParse(t, what, b.String(), entries, api.OK)
		}
	}
}

// noEvery are numbers that every may not be.
var noEvery = []int{0, -1, -2, -16, -64, 65, 66, 128, 256 + 16, 1<<32 + 16, math.MaxInt, math.MaxInt - 1, math.MinInt, math.MinInt + 1, math.MinInt + 16}

// TestWhichError: of Build's errors that of every is told ahead of that of how many, and this one ahead of Ordered's.
func TestWhichError(t *testing.T) {
	unordered := append(falling(2), gone("a", 1))
	bad := append(falling(2), api.Entry{})
	many := falling(4097)
	manyBad := make([]api.Entry, 4097)
	for _, every := range noEvery {
		for _, entries := range [][]api.Entry{nil, falling(2), unordered, bad, many, manyBad} {
			wantBuild(t, "a number that every may not be", entries, every, "", api.ErrArg)
		}
	}
	for _, every := range []int{1, 2, 16, 63, 64} {
		wantBuild(t, "too many", many, every, "", api.ErrLong)
		wantBuild(t, "too many bad ones", manyBad, every, "", api.ErrLong)
		wantBuild(t, "many too many", make([]api.Entry, 1<<16), every, "", api.ErrLong)
		wantBuild(t, "unordered ones", unordered, every, "", api.ErrOrder)
		wantBuild(t, "a bad one", bad, every, "", api.ErrArg)
		wantBuild(t, "as many bad ones as may be", manyBad[:4096], every, "", api.ErrArg)
	}
}

// TestMost: as many entries as may be.
func TestMost(t *testing.T) {
	entries := falling(4096)
	for _, every := range []int{1, 16, 64} {
		s, e := Build(entries, every)
		if e != api.OK || !strings.HasPrefix(s, "\x80\x40") {
			t.Errorf("P10.2: Build of 4096 entries is %.20x, %d", s, e)
		}
		wantParse(t, "4096 entries", s, entries, api.OK)
		wantFind(t, "4096 entries", s, "k", 1, entries[4095], true, api.OK)
	}
	// Ordered doesn't ask how many there are.
	wantOrdered(t, "5000 entries", falling(5000), 0, api.OK)
	wantOrdered(t, "5000 entries and a bad one", append(falling(5000), api.Entry{}), 5000, api.ErrArg)
}

// bad is an entry that may stand nowhere, and its error.
type bad struct {
	entry api.Entry
	why   api.Errno
}

func bads() []bad {
	return []bad{
		{api.Entry{}, api.ErrArg},
		{put("", 1, "x"), api.ErrArg},
		{gone("", 1), api.ErrArg},
		{put("m", 0, ""), api.ErrArg},
		{gone("m", -1), api.ErrArg},
		{gone("m", math.MinInt64), api.ErrArg},
		{api.Entry{Key: "m", Seq: 1, Until: -1}, api.ErrArg},
		{api.Entry{Key: "m", Seq: 1, Until: math.MinInt64}, api.ErrArg},
		{api.Entry{Key: "m", Seq: 1, Until: math.MaxInt64}, api.ErrArg},
		{api.Entry{Key: key, Seq: math.MaxInt64, Value: value, Until: math.MaxInt64}, api.ErrArg},
		{api.Entry{Key: "m", Seq: 1, Gone: true, Value: "x"}, api.ErrArg},
		{api.Entry{Key: "m", Seq: 1, Gone: true, Until: 1}, api.ErrArg},
		{api.Entry{Key: "m", Seq: 1, Gone: true, Until: math.MaxInt64}, api.ErrArg},
		{put(key+"k", 1, ""), api.ErrLong},
		{gone(key+"k", 1), api.ErrLong},
		{gone(strings.Repeat("k", 1<<17), 1), api.ErrLong},
		{put("m", 1, value+"v"), api.ErrLong},
		{put("m", 1, strings.Repeat("v", 1<<17)), api.ErrLong},
		// Of one that has several errors layer 6's is told, and of those what is too long.
		{api.Entry{Key: key + "k", Seq: 1, Until: math.MaxInt64}, api.ErrLong},
		{api.Entry{Key: "m", Seq: 1, Value: value + "v", Until: math.MaxInt64}, api.ErrLong},
		{api.Entry{Key: key + "k", Seq: 0, Until: -1}, api.ErrLong},
		// That it stands at the wrong place is told of no entry that is bad itself.
		{put("a", 0, ""), api.ErrArg},
		{api.Entry{Key: "a", Seq: 1, Until: math.MaxInt64}, api.ErrArg},
		{put("g", 0, ""), api.ErrArg},
		{api.Entry{Key: "g", Seq: 9, Until: math.MaxInt64}, api.ErrArg},
		{gone(strings.Repeat("a", 65), 1), api.ErrLong},
	}
}

// TestBad: the first entry that isn't good, or has the greatest Until.
func TestBad(t *testing.T) {
	for i, x := range bads() {
		what := fmt.Sprintf("bad %d", i)
		for ahead := range 4 {
			for _, behind := range [][]api.Entry{nil, {gone("z", 1)}, {gone("a", 1)}} {
				var l []api.Entry
				for k := range ahead {
					l = append(l, gone("g", int64(9-k)))
				}
				l = append(append(l, x.entry), behind...)
				wantOrdered(t, what, l, ahead, x.why)
				wantBuild(t, what, l, 1+ahead, "", x.why)
			}
		}
		// Which of several has the error that is told, is the first one.
		for j, y := range bads() {
			l := []api.Entry{gone("g", 9), x.entry, y.entry}
			wantOrdered(t, fmt.Sprintf("%s ahead of %d", what, j), l, 1, x.why)
			wantBuild(t, fmt.Sprintf("%s ahead of %d", what, j), l, 64, "", x.why)
			l = []api.Entry{gone("g", 9), gone("f", 9), y.entry}
			wantOrdered(t, fmt.Sprintf("unordered ahead of bad %d", j), l, 1, api.ErrOrder)
			wantBuild(t, fmt.Sprintf("unordered ahead of bad %d", j), l, 64, "", api.ErrOrder)
		}
	}
}

// TestOrder: the first entry that doesn't stand behind the one ahead.
func TestOrder(t *testing.T) {
	for i, x := range []struct {
		a, b api.Entry
		ok   bool
	}{
		{gone("g", 5), gone("h", 5), true},
		{gone("g", 5), gone("h", 1), true},
		{gone("g", 5), gone("h", math.MaxInt64), true},
		{gone("g", 5), gone("g", 4), true},
		{gone("g", math.MaxInt64), gone("g", 1), true},
		{gone("g", 5), gone("gg", 5), true},
		{gone("g", 5), gone("g\x00", 9), true},
		{gone("\x7f", 1), gone("\x80", 1), true},
		{gone("g", 5), gone("g", 5), false},
		{put("g", 5, "x"), put("g", 5, "y"), false},
		{gone("g", 5), put("g", 5, "y"), false},
		{api.Entry{Key: "g", Seq: 5, Until: 2}, api.Entry{Key: "g", Seq: 5, Until: 3}, false},
		{gone("g", 5), gone("g", 6), false},
		{gone("g", 1), gone("g", math.MaxInt64), false},
		{gone("g", 5), gone("f", 4), false},
		{gone("gg", 5), gone("g", 4), false},
		{gone("\x80", 1), gone("\x7f", 1), false},
		{gone(key, 1), gone(key, 1), false},
		{gone(key, 1), gone(key[1:], 1), false},
	} {
		for ahead := range 3 {
			l := append(falling(ahead), x.a, x.b)
			for k := range ahead {
				l[k].Key = "\x01"
			}
			for _, more := range [][]api.Entry{nil, {gone("\xff", 1)}, {gone("\x01", 1)}, {{}}} {
				what := fmt.Sprintf("pair %d behind %d", i, ahead)
				switch {
				case !x.ok:
					wantOrdered(t, what, append(l, more...), ahead+1, api.ErrOrder)
					wantBuild(t, what, append(l, more...), 16, "", api.ErrOrder)
				case more == nil:
					wantOrdered(t, what, l, 0, api.OK)
				}
			}
		}
	}
	// The one that is held against is the next one ahead, not the first, nor the greatest.
	wantOrdered(t, "a step back", []api.Entry{gone("a", 1), gone("c", 1), gone("b", 1), gone("d", 1)}, 2, api.ErrOrder)
	wantOrdered(t, "two steps back", []api.Entry{gone("a", 1), gone("b", 1), gone("a", 1), gone("a", 1)}, 2, api.ErrOrder)
	wantOrdered(t, "none", nil, 0, api.OK)
	wantOrdered(t, "none", []api.Entry{}, 0, api.OK)
}

// TestBehind: what lies behind the length of the entries counts for nothing, and isn't written.
func TestBehind(t *testing.T) {
	all := []api.Entry{put("a", 1, "x"), gone("b", 1), {}, gone("a", 9)}
	was := slices.Clone(all)
	wantOrdered(t, "entries with room behind", all[:2], 0, api.OK)
	wantBuild(t, "entries with room behind", all[:2], 16, from(t, "04  00 02 61 02 02 02 78  00 02 62 02 00"), api.OK)
	wantBuild(t, "no entries with room behind", all[:0], 16, "\x00", api.OK)
	if !slices.Equal(all, was) {
		t.Errorf("rule 4: the entries are %v behind all calls", all)
	}
}

// TestMemory: what is answered shares no memory with what was handed in, nor with another answer.
func TestMemory(t *testing.T) {
	bytes := []byte(from(t, "06  00 04 61 62 06 02 02 78  04 00 04 02 02 79  02 02 63 02 00"))
	s := unsafe.String(&bytes[0], len(bytes))
	read, e := Parse(s)
	again, _ := Parse(s)
	found, _, _ := Find(s, "ab", 2)
	if e != api.OK {
		t.Fatalf("P10.3: Parse is %d", e)
	}
	texts := []byte("abxy")
	key, entries := unsafe.String(&texts[0], 2), []api.Entry{gone("ac", 1)}
	for i := range 2 {
		entries = slices.Insert(entries, i, put(key, int64(3-i), unsafe.String(&texts[2+i], 1)))
	}
	built, _ := Build(entries, 16)
	was := string(bytes)
	clear(bytes)
	clear(texts)
	if built != was {
		t.Errorf("P10.2: behind a change of what was handed in the bytes are %x", built)
	}
	want := []api.Entry{put("ab", 3, "x"), put("ab", 2, "y"), gone("ac", 1)}
	for i, got := range [][]api.Entry{read, again} {
		if !slices.Equal(got, want) {
			t.Errorf("P10.3: behind a change of what was handed in the entries of Parse %d are %v", i, got)
		}
	}
	if found != want[1] {
		t.Errorf("P10.4: behind a change of what was handed in Find's entry is %v", found)
	}
	// Also where a key shares all of the one ahead.
	if unsafe.StringData(read[0].Key) == unsafe.StringData(read[1].Key) {
		t.Error("P10.3: two keys of an answer share their memory")
	}
	read[0] = api.Entry{}
	if again[0] != want[0] {
		t.Error("P10.3: two answers share their memory")
	}
}

// TestList: what stands in layer 6's list is built, and found as there.
func TestList(t *testing.T) {
	l := skip.New(3, 1, 4, 1, 5)
	for _, e := range []api.Entry{put("b", 1, "x"), gone("a", 2), put("b", 4, "y"), put("ab", 3, "z"), gone("b", 5)} {
		if why := l.Put(e); why != api.OK {
			t.Fatalf("Put of %v is %d", e, why)
		}
	}
	var entries []api.Entry
	for e := range l.From("") {
		entries = append(entries, e)
	}
	s, e := Build(entries, 2)
	if e != api.OK {
		t.Fatalf("Build is %d", e)
	}
	for _, k := range []string{"", "a", "aa", "ab", "b", "c"} {
		for seq := int64(-1); seq < 8; seq++ {
			want, there := l.Get(k, seq)
			wantFind(t, "a list's entries", s, k, seq, want, there, api.OK)
		}
	}
}
