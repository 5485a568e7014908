package table

import (
	"fmt"
	"math"
	"slices"
	"strings"
	"testing"

	"oxbow/api"
)

// source: bytes, of which only those that are there may be asked for.
func source(t *testing.T, s string) Source {
	return func(at, n int) (string, api.Errno) {
		t.Helper()
		if at < 0 || n < 0 || at > len(s) || n > len(s)-at {
			t.Errorf("of %d bytes %d are asked for from %d on", len(s), n, at)
			return "", api.ErrArg
		}
		return s[at : at+n], api.OK
	}
}

// broken: bytes of which one can't be read.
func broken(t *testing.T, s string, place int, why api.Errno) Source {
	return func(at, n int) (string, api.Errno) {
		told, e := source(t, s)(at, n)
		if at <= place && place < at+n {
			// Beside an error what is told counts for nothing.
			return told, why
		}
		return told, e
	}
}

// opened: the table that bytes are.
func opened(t *testing.T, s string) *Table {
	t.Helper()
	table, e := Open(source(t, s), len(s))
	if e != api.OK {
		t.Fatalf("P11.2: Open of %.300x, of %d bytes, tells %d", s, len(s), e)
	}
	return table
}

func wantOpen(t *testing.T, what string, src Source, size int, why api.Errno) {
	t.Helper()
	if table, e := Open(src, size); e != why || (table == nil) != (why != api.OK) {
		t.Errorf("P11.2: %s: Open, of %d bytes, is %v, %d, not %d", what, size, table, e, why)
	}
}

// wantRead: what Open tells of bytes.
func wantRead(t *testing.T, what, s string, why api.Errno) {
	t.Helper()
	wantOpen(t, fmt.Sprintf("%s: %.200x", what, s), source(t, s), len(s), why)
}

// few: entries of four blocks, of size 3.
func few() []api.Entry {
	return []api.Entry{put("a", 2, "x"), gone("a", 1), put("ab", 5, "xyz"), {Key: "b", Seq: 4, Until: 7}, gone("b", 3), put("c", 1, "x"), gone("d", 9)}
}

func TestOpen(t *testing.T) {
	for _, entries := range [][]api.Entry{nil, {gone("a", 1)}, few(), many(3000)} {
		for _, size := range sizes {
			for _, bits := range []int{1, 10, 16} {
				wantRead(t, "a table", built(t, entries, size, bits), api.OK)
			}
		}
	}
}

// TestNoSource: with a nil source any size is ErrArg.
func TestNoSource(t *testing.T) {
	for _, size := range []int{0, 1, 23, 24, 25, 50, -1, math.MaxInt, math.MinInt} {
		wantOpen(t, "no source", nil, size, api.ErrArg)
	}
}

// TestSmallSize: below 24 bytes nothing is read.
func TestSmallSize(t *testing.T) {
	s := built(t, few(), 3, 10)
	never := func(at, n int) (string, api.Errno) {
		t.Errorf("of too small a size %d bytes are asked for from %d on", n, at)
		return s, api.ErrPower
	}
	for _, size := range []int{23, 22, 8, 1, 0, -1, -24, -25, math.MinInt, math.MinInt + 1, math.MinInt + 23} {
		wantOpen(t, "too small a size", never, size, api.ErrShort)
	}
	// Of 24 bytes there is a foot, with no room for an index.
	for _, s := range []string{frames(foot(0, 0)), frames(foot(0, 0)) + "x", "x" + frames(foot(0, 0))} {
		why := api.ErrNone
		if s[len(s)-1] == 'x' {
			why = api.ErrForm
		}
		wantRead(t, "a foot alone", s, why)
	}
}

// TestSourceErrors: each error of the source is answered as it is, wherever it comes.
func TestSourceErrors(t *testing.T) {
	s := built(t, few(), 3, 10)
	spans := opened(t, s).Spans()
	last := spans[len(spans)-1]
	for _, why := range []api.Errno{api.ErrNone, api.ErrPower, api.ErrArg, api.ErrSum, api.ErrForm, -1, 99, math.MaxInt, math.MinInt} {
		for place := range len(s) {
			want := why
			if place < last.At+last.N {
				want = api.OK
			}
			wantOpen(t, "a broken source", broken(t, s, place, why), len(s), want)
		}
		wantOpen(t, "a source of errors", func(int, int) (string, api.Errno) { return s, why }, len(s), why)
		wantOpen(t, "a source of errors", func(int, int) (string, api.Errno) { return "", why }, math.MaxInt, why)
	}
}

// TestWhichOpenError: what stands ahead in the chapter is told, whether it is an error of the source, or of its bytes.
func TestWhichOpenError(t *testing.T) {
	s := built(t, few(), 3, 10)
	spans := opened(t, s).Spans()
	index := spans[len(spans)-1].At + spans[len(spans)-1].N
	filter := strings.Index(s, frames(filterOf(t, 10, "a", "ab", "b", "c", "d")))
	end := len(s) - 24
	if index < 0 || filter < index {
		t.Fatalf("index and filter stand at %d and %d", index, filter)
	}
	turn := func(s string, place int) string { return s[:place] + string(s[place]^1) + s[place+1:] }
	wantOpen(t, "foot at fault, index broken", broken(t, turn(s, len(s)-1), index, api.ErrPower), len(s), api.ErrSum)
	wantOpen(t, "foot at fault, filter broken", broken(t, turn(s, len(s)-1), filter, api.ErrPower), len(s), api.ErrSum)
	wantOpen(t, "index at fault, foot broken", broken(t, turn(s, index+9), end, api.ErrPower), len(s), api.ErrPower)
	wantOpen(t, "index at fault, filter broken", broken(t, turn(s, index+9), filter, api.ErrPower), len(s), api.ErrSum)
	wantOpen(t, "filter at fault, index broken", broken(t, turn(s, filter+9), index, api.ErrPower), len(s), api.ErrPower)
	wantRead(t, "index and filter at fault", turn(turn(s, filter+2), index+9), api.ErrSum)
	wantRead(t, "index and filter at fault", turn(turn(s, filter+9), index+2), api.ErrForm)
	wantRead(t, "foot and index at fault", turn(turn(s, len(s)-1), index+2), api.ErrSum)
	// What the index's body tells is looked at behind all that is read.
	body := "\x03"
	f := frames(body) + frames("\x01\x00")
	wantRead(t, "an index's body at fault", f+frames(foot(0, 9)), api.ErrForm)
	wantRead(t, "also the filter", turn(f, 18)+frames(foot(0, 9)), api.ErrSum)
	wantOpen(t, "the filter broken", broken(t, f+frames(foot(0, 9)), 9, api.ErrPower), len(f)+24, api.ErrPower)
}

// TestFoot: the last 24 bytes, which must be just one frame of two places.
func TestFoot(t *testing.T) {
	ahead := frames("\x00", "\x01\x00")
	good := frames(foot(0, 9))
	wantRead(t, "a foot", ahead+good, api.OK)
	for _, x := range []struct {
		what, foot string
		why        api.Errno
	}{
		{"a body of 15 bytes", frames(foot(0, 9)[:15]) + "x", api.ErrForm},
		{"a body of 15 bytes", "x" + frames(foot(0, 9)[:15]), api.ErrForm},
		{"three frames without a body", frames("", "", ""), api.ErrForm},
		{"a body of 17 bytes, cut off", frames(foot(0, 9) + "x")[:24], api.ErrShort},
		{"a body of 17 bytes", frames(foot(0, 9) + "x"), api.ErrForm},
		{"a byte turned in its head", "\x00\x10\xff\xee" + good[4:], api.ErrForm},
		{"a body of 65535 bytes", "\xff\xff\x00\x00" + good[4:], api.ErrShort},
		{"another check sum", good[:7] + "\x00" + good[8:], api.ErrSum},
		{"another body", good[:23] + "\x0a", api.ErrSum},
		{"zeros", strings.Repeat("\x00", 24), api.ErrForm},
		{"a byte behind", good + "x", api.ErrForm},
		{"a foot behind", good + good, api.ErrForm},
	} {
		wantRead(t, x.what, ahead+x.foot, x.why)
	}
}

// TestPlaces: those of index and filter may stand anywhere from 0 to the foot, the index's at most at the filter's.
func TestPlaces(t *testing.T) {
	f := "\x01\x00"
	ahead := frames("\x00", f)
	end := uint64(len(ahead))
	for _, x := range []struct {
		index, filter uint64
		why           api.Errno
	}{
		{0, 9, api.OK},
		{9, 0, api.ErrForm},
		{10, 9, api.ErrForm},
		{0, end + 1, api.ErrForm},
		{0, end + 24, api.ErrForm},
		{end + 1, end + 1, api.ErrForm},
		{end + 1, 9, api.ErrForm},
		{0, 1<<63 + 9, api.ErrForm},
		{1 << 63, 9, api.ErrForm},
		{1 << 63, 1<<63 + 9, api.ErrForm},
		{0, 1<<32 + 9, api.ErrForm},
		{1 << 32, 9, api.ErrForm},
		{0, math.MaxUint64, api.ErrForm},
		{math.MaxUint64, math.MaxUint64, api.ErrForm},
		{math.MaxUint64, 9, api.ErrForm},
		{0, math.MaxInt64, api.ErrForm},
		{math.MaxInt64, math.MaxInt64, api.ErrForm},
		// Where they may stand, but no frame does.
		{0, 0, api.ErrNone},
		{9, 9, api.ErrNone},
		{end, end, api.ErrNone},
		{0, 1, api.ErrShort},
		{0, 8, api.ErrShort},
		{0, 10, api.ErrForm},
		{0, end, api.ErrForm},
		{0, end - 1, api.ErrForm},
		{1, 9, api.ErrForm},
		{9, end, api.ErrNone},
	} {
		wantRead(t, fmt.Sprintf("index at %d, filter at %d", x.index, x.filter), ahead+frames(foot(x.index, x.filter)), x.why)
	}
	// A place in each of the eight bytes.
	for i := range 8 {
		b := []byte(foot(0, 9))
		b[i] = 1
		wantRead(t, "an index's place", ahead+frames(string(b)), api.ErrForm)
		b = []byte(foot(0, 9))
		b[8+i] ^= 0x80
		wantRead(t, "a filter's place", ahead+frames(string(b)), api.ErrForm)
	}
}

// TestSpansOfFrames: index and filter are each just one frame.
func TestSpansOfFrames(t *testing.T) {
	index, filter := frames("\x00"), frames("\x01\x00")
	all := func(index, filter string) string {
		return index + filter + frames(foot(0, uint64(len(index))))
	}
	wantRead(t, "both", all(index, filter), api.OK)
	for _, x := range []struct {
		what  string
		bytes func(frame string) string
		why   api.Errno
	}{
		{"none", func(f string) string { return "" }, api.ErrNone},
		{"two", func(f string) string { return f + f }, api.ErrForm},
		{"a byte behind", func(f string) string { return f + "\x00" }, api.ErrForm},
		{"a byte ahead", func(f string) string { return "\x00" + f }, api.ErrForm},
		{"the last byte cut off", func(f string) string { return f[:len(f)-1] }, api.ErrShort},
		{"a body cut off", func(f string) string { return f[:8] }, api.ErrShort},
		{"a head cut off", func(f string) string { return f[:7] }, api.ErrShort},
		{"a head cut off", func(f string) string { return f[:3] }, api.ErrShort},
		{"the first byte alone", func(f string) string { return f[:1] }, api.ErrShort},
		{"the first byte cut off", func(f string) string { return f[1:] }, api.ErrForm},
		{"another check sum", func(f string) string { return f[:4] + "\x00\x00\x00\x01" + f[8:] }, api.ErrSum},
		{"another check sum, and a byte behind", func(f string) string { return f[:4] + "\x00\x00\x00\x01" + f[8:] + "x" }, api.ErrSum},
		{"another body", func(f string) string { return f[:8] + "\x07" + f[9:] }, api.ErrSum},
	} {
		wantRead(t, "the index's frame: "+x.what, all(x.bytes(index), filter), x.why)
		wantRead(t, "the filter's frame: "+x.what, all(index, x.bytes(filter)), x.why)
	}
	// A filter of any body is one.
	for _, body := range []string{"", "\x00", "\x06", "\x09abc", strings.Repeat("\xff", 65535)} {
		wantRead(t, "a filter", all(index, frames(body)), api.OK)
	}
}

// wantIndex: what Open and Spans tell of an index behind so many bytes.
func wantIndex(t *testing.T, what string, place int, index string, want []Span, why api.Errno) {
	t.Helper()
	s := strings.Repeat("b", place) + ended(place, index, "")
	wantRead(t, what, s, why)
	if why != api.OK || t.Failed() {
		return
	}
	if spans := opened(t, s).Spans(); !slices.Equal(spans, want) {
		t.Errorf("P11.3: %s: of the index %.100x Spans is %v, not %v", what, index, spans, want)
	}
}

// cell: a block in an index.
func cell(last string, at, n int64) string { return text(last) + number(at) + number(n) }

// TestIndexNumbers: layer 1's errors, and the least and greatest numbers.
func TestIndexNumbers(t *testing.T) {
	one, long := "\x02", "\x80\x80\x08"
	over := strings.Repeat("\xff", 10)
	for _, x := range []struct {
		what, index string
		why         api.Errno
	}{
		{"no count", "", api.ErrShort},
		{"a count cut off", "\x80", api.ErrShort},
		{"a count of too many bytes", "\x80\x00", api.ErrForm},
		{"a count of ten bytes", over, api.ErrForm},
		{"a count below 0", number(-1), api.ErrForm},
		{"a count below 0, and bytes", number(-1) + cell("a", 0, 8), api.ErrForm},
		{"the least count", number(math.MinInt64), api.ErrForm},
		{"the greatest count", number(math.MaxInt64), api.ErrShort},
		{"the greatest count", number(math.MaxInt64) + cell("a", 0, 8), api.ErrShort},
		{"no key", one, api.ErrShort},
		{"a key's length cut off", one + "\x80", api.ErrShort},
		{"a key's length of too many bytes", one + "\x80\x00", api.ErrForm},
		{"a key's length below 0", one + "\x01", api.ErrForm},
		{"a key's length above what may be", one + long, api.ErrLong},
		{"the greatest key's length", one + number(math.MaxInt64), api.ErrLong},
		{"a key cut off", one + "\x04a", api.ErrShort},
		{"no place", one + "\x02a", api.ErrShort},
		{"a place cut off", one + "\x02a\x80", api.ErrShort},
		{"a place of too many bytes", one + "\x02a\x80\x00", api.ErrForm},
		{"a place of ten bytes", one + "\x02a" + over, api.ErrForm},
		{"no number of bytes", one + "\x02a\x00", api.ErrShort},
		{"a number of bytes cut off", one + "\x02a\x00\x90", api.ErrShort},
		{"a number of bytes of too many bytes", one + "\x02a\x00\x90\x00", api.ErrForm},
		{"the block", one + "\x02a\x00\x10", api.OK},
		{"a byte behind", one + "\x02a\x00\x10\x00", api.ErrForm},
		{"a block behind", one + "\x02a\x00\x10\x02a\x10\x10", api.ErrForm},
		{"no second block", "\x04\x02a\x00\x10", api.ErrShort},
		{"a key that no entry has", one + "\x00\x00\x10", api.OK},
	} {
		last := "a"
		if strings.HasPrefix(x.index, "\x02\x00") {
			last = ""
		}
		wantIndex(t, x.what, 8, x.index, []Span{{last, 0, 8}}, x.why)
	}
	// A key as long as an entry's may not be.
	for _, n := range []int{64, 65, 4097, 65000} {
		key := strings.Repeat("k", n)
		wantIndex(t, "a long key", 8, one+cell(key, 0, 8), []Span{{key, 0, 8}}, api.OK)
	}
}

// TestIndexSpans: one behind the other, of at least eight bytes each, from 0 up to the index's place.
func TestIndexSpans(t *testing.T) {
	wantIndex(t, "no block", 0, "\x00", nil, api.OK)
	for _, place := range []int{1, 7, 8, 9, 1000} {
		wantIndex(t, "no block, but bytes", place, "\x00", nil, api.ErrForm)
	}
	wantIndex(t, "no block, and a byte", 0, "\x00\x00", nil, api.ErrForm)
	for _, x := range []struct {
		at, n, place int64
		why          api.Errno
	}{
		{0, 8, 8, api.OK},
		{0, 9, 9, api.OK},
		{0, 66000, 66000, api.OK},
		{0, 7, 7, api.ErrForm},
		{0, 0, 0, api.ErrForm},
		{0, 8, 7, api.ErrForm},
		{0, 8, 0, api.ErrForm},
		{0, 8, 9, api.ErrForm},
		{0, 9, 8, api.ErrForm},
		{1, 8, 8, api.ErrForm},
		{1, 8, 9, api.ErrForm},
		{1, 7, 8, api.ErrForm},
		{-1, 9, 8, api.ErrForm},
		{-1, 8, 8, api.ErrForm},
		{0, -8, 8, api.ErrForm},
		{0, math.MaxInt64, 8, api.ErrForm},
		{0, math.MinInt64, 8, api.ErrForm},
		{0, math.MinInt64 + 8, 8, api.ErrForm},
		{math.MaxInt64, 8, 8, api.ErrForm},
		{math.MinInt64, 8, 8, api.ErrForm},
		{1 << 32, 8, 8, api.ErrForm},
		{0, 1<<32 + 8, 8, api.ErrForm},
	} {
		wantIndex(t, fmt.Sprintf("%d bytes at %d", x.n, x.at), int(x.place), "\x02"+cell("a", x.at, x.n), []Span{{"a", 0, int(x.n)}}, x.why)
	}
	for _, x := range []struct {
		what    string
		at, n   int64
		at2, n2 int64
		place   int
		why     api.Errno
	}{
		{"two", 0, 8, 8, 10, 18, api.OK},
		{"a gap", 0, 8, 9, 9, 18, api.ErrForm},
		{"one in the other", 0, 8, 7, 11, 18, api.ErrForm},
		{"both at 0", 0, 8, 0, 18, 18, api.ErrForm},
		{"both at 0", 0, 8, 0, 8, 8, api.ErrForm},
		{"turned round", 10, 8, 0, 10, 18, api.ErrForm},
		{"a small one ahead", 0, 7, 7, 11, 18, api.ErrForm},
		{"a small one behind", 0, 11, 11, 7, 18, api.ErrForm},
		{"beyond", 0, 8, 8, 11, 18, api.ErrForm},
		{"not up to there", 0, 8, 8, 9, 18, api.ErrForm},
		{"the second beyond all numbers", 0, 8, 8, math.MaxInt64, 18, api.ErrForm},
		{"the second beyond all numbers", 0, 8, 8, math.MaxInt64 - 7, 18, api.ErrForm},
		{"the first has all", 0, 18, 18, 8, 18, api.ErrForm},
		{"the first has all", 0, 18, 18, 0, 18, api.ErrForm},
		{"no room for a second", 0, 17, 17, 8, 18, api.ErrForm},
	} {
		wantIndex(t, x.what, x.place, "\x04"+cell("a", x.at, x.n)+cell("b", x.at2, x.n2), []Span{{"a", 0, 8}, {"b", 8, 10}}, x.why)
	}
}

// TestIndexRound: numbers that come round to the index's place, once they have gone beyond the greatest.
func TestIndexRound(t *testing.T) {
	round := cell("a", 8, math.MaxInt64-7) + cell("a", math.MinInt64, math.MaxInt64) + cell("a", -1, 19)
	wantIndex(t, "all round", 18, "\x08"+cell("a", 0, 8)+round, nil, api.ErrForm)
	wantIndex(t, "and on", 26, "\x0a"+cell("a", 0, 8)+round+cell("a", 18, 8), nil, api.ErrForm)
}

// TestIndexKeys: none stands below the one ahead.
func TestIndexKeys(t *testing.T) {
	for _, x := range []struct {
		a, b string
		why  api.Errno
	}{
		{"a", "b", api.OK},
		{"a", "a", api.OK},
		{"a", "ab", api.OK},
		{"", "", api.OK},
		{"", "a", api.OK},
		{"\x7f", "\x80", api.OK},
		{"b", "a", api.ErrForm},
		{"ab", "a", api.ErrForm},
		{"a", "", api.ErrForm},
		{"\x80", "\x7f", api.ErrForm},
		{"b", "ab", api.ErrForm},
	} {
		wantIndex(t, "two keys", 16, "\x04"+cell(x.a, 0, 8)+cell(x.b, 8, 8), []Span{{x.a, 0, 8}, {x.b, 8, 8}}, x.why)
		wantIndex(t, "two keys behind one", 24, "\x06"+cell("", 0, 8)+cell(x.a, 8, 8)+cell(x.b, 16, 8), []Span{{"", 0, 8}, {x.a, 8, 8}, {x.b, 16, 8}}, x.why)
	}
}

// TestWhichIndexError: of a block's errors layer 1's come first; all of one block come ahead of those of the next.
func TestWhichIndexError(t *testing.T) {
	b := "\x06" + cell("b", 0, 8)
	for _, x := range []struct {
		what, index string
		why         api.Errno
	}{
		{"a key below, no place", b + text("a"), api.ErrShort},
		{"a key below, another place, no number of bytes", b + text("a") + number(9), api.ErrShort},
		{"another place, no number of bytes", b + text("c") + number(9), api.ErrShort},
		{"another place, then no block", b + cell("c", 9, 8), api.ErrForm},
		{"too few bytes, then no block", b + cell("c", 8, 7), api.ErrForm},
		{"too many bytes, then no block", b + cell("c", 8, 9999), api.ErrForm},
		{"a key below, then no block", b + cell("a", 8, 8), api.ErrForm},
		{"no third block", b + cell("c", 8, 8), api.ErrShort},
		{"another place, then a long key", b + cell("c", 9, 8) + "\x80\x80\x08", api.ErrForm},
		{"a long key", b + cell("c", 8, 8) + "\x80\x80\x08", api.ErrLong},
		{"all", b + cell("c", 8, 8) + cell("d", 16, 8), api.OK},
		{"a byte behind", b + cell("c", 8, 8) + cell("d", 16, 8) + "\x00", api.ErrForm},
	} {
		wantIndex(t, x.what, 24, x.index, []Span{{"b", 0, 8}, {"c", 8, 8}, {"d", 16, 8}}, x.why)
	}
}

// TestCutOff: of a table that is cut off, or has bytes too many, no table is told.
func TestCutOff(t *testing.T) {
	s := built(t, few(), 3, 10)
	for n := range len(s) {
		for _, x := range []string{s[:n], s[n+1:], s[:n] + s[n+1:], s[:n] + "\x00" + s[n:], s[:n] + s[n:n+1] + s[n:]} {
			if table, e := Open(source(t, x), len(x)); table != nil || e == api.OK {
				t.Errorf("P11.2: of %x Open tells a table", x)
			}
		}
	}
	for _, x := range []string{s + "\x00", s + s[len(s)-24:], s + s} {
		if table, e := Open(source(t, x), len(x)); table != nil || e == api.OK {
			t.Errorf("P11.2: of %x Open tells a table", x)
		}
	}
	// A size that isn't that of the bytes.
	for size := 24; size < len(s); size++ {
		if table, e := Open(source(t, s), size); table != nil || e == api.OK {
			t.Errorf("P11.2: of %d bytes less Open tells a table", len(s)-size)
		}
	}
}

// TestTurned: with one bit turned either Open tells it, or the block that has it; what is told is what was there.
func TestTurned(t *testing.T) {
	l := few()
	s := built(t, l, 3, 10)
	spans := opened(t, s).Spans()
	blocks := spans[len(spans)-1].At + spans[len(spans)-1].N
	for bit := range 8 * len(s) {
		b := []byte(s)
		b[bit/8] ^= 1 << (bit % 8)
		table, e := Open(source(t, string(b)), len(b))
		if (e == api.OK) != (bit/8 < blocks) {
			t.Fatalf("P11.2: with bit %d turned Open tells %d", bit, e)
		}
		if e != api.OK {
			continue
		}
		if all, e := table.All(""); len(all) > 0 || e == api.OK {
			t.Errorf("P11.4: with bit %d turned All is %v, %d", bit, all, e)
		}
		for i, span := range spans {
			turned := span.At <= bit/8 && bit/8 < span.At+span.N
			if body, e := table.Block(i); (e == api.OK) == turned || (body == "") != turned {
				t.Errorf("P11.4: with bit %d turned Block(%d) is %x, %d", bit, i, body, e)
			}
		}
	}
}
