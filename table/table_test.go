package table

import (
	"encoding/binary"
	"encoding/hex"
	"fmt"
	"hash/crc32"
	"math"
	"slices"
	"strings"
	"testing"

	"oxbow/api"
	"oxbow/block"
	"oxbow/bloom"
)

// put, gone: entries with a Seq, and nothing more than it takes to be good.
func put(key string, seq int64, value string) api.Entry {
	return api.Entry{Key: key, Seq: seq, Value: value}
}
func gone(key string, seq int64) api.Entry { return api.Entry{Key: key, Seq: seq, Gone: true} }

// from: the bytes that hexadecimal digits say; blanks don't count.
func from(t *testing.T, digits string) string {
	t.Helper()
	b, err := hex.DecodeString(strings.ReplaceAll(digits, " ", ""))
	if err != nil {
		t.Fatal(err)
	}
	return string(b)
}

// frames: bodies in frames, one behind the other.
func frames(bodies ...string) string {
	var b []byte
	for _, body := range bodies {
		b = binary.BigEndian.AppendUint16(b, uint16(len(body)))
		b = binary.BigEndian.AppendUint16(b, 65535-uint16(len(body)))
		b = binary.BigEndian.AppendUint32(b, crc32.ChecksumIEEE([]byte(body)))
		b = append(b, body...)
	}
	return string(b)
}

// number, text: their bytes.
func number(n int64) string { return string(binary.AppendVarint(nil, n)) }
func text(s string) string  { return number(int64(len(s))) + s }

// foot: that of two places.
func foot(index, filter uint64) string {
	return string(binary.BigEndian.AppendUint64(binary.BigEndian.AppendUint64(nil, index), filter))
}

// piece is a block as a table may have it: the key that the index tells, and the bytes of its span.
type piece struct{ last, bytes string }

// laid: a table of blocks, and of a filter.
func laid(filter string, pieces ...piece) string {
	s, index := "", number(int64(len(pieces)))
	for _, p := range pieces {
		index += text(p.last) + number(int64(len(s))) + number(int64(len(p.bytes)))
		s += p.bytes
	}
	return s + ended(len(s), index, filter)
}

// ended: index, filter and foot, as they stand behind so many bytes.
func ended(at int, index, filter string) string {
	index = frames(index)
	return index + frames(filter) + frames(foot(uint64(at), uint64(at+len(index))))
}

// of: a block of entries.
func of(t *testing.T, entries ...api.Entry) piece {
	t.Helper()
	body, e := block.Build(entries, 16)
	if e != api.OK {
		t.Fatalf("block.Build(%v) tells %d", entries, e)
	}
	return piece{entries[len(entries)-1].Key, frames(body)}
}

// filterOf: the filter of keys.
func filterOf(t *testing.T, bits int, keys ...string) string {
	t.Helper()
	s, e := bloom.New(bits, keys...)
	if e != api.OK {
		t.Fatalf("bloom.New of %d keys tells %d", len(keys), e)
	}
	return s
}

// built: Build's bytes.
func built(t *testing.T, entries []api.Entry, size, bits int) string {
	t.Helper()
	s, e := Build(entries, size, bits)
	if e != api.OK {
		t.Fatalf("P11.1: Build(%d, %d), of %d entries, tells %d", size, bits, len(entries), e)
	}
	return s
}

func wantBuild(t *testing.T, what string, entries []api.Entry, size, bits int, want string, why api.Errno) {
	t.Helper()
	was := slices.Clone(entries)
	if s, e := Build(entries, size, bits); s != want || e != why {
		t.Errorf("P11.1: %s: Build(%d, %d), of %d entries, is %.300x, of %d bytes, and %d, not %.300x, of %d, and %d", what, size, bits, len(entries), s, len(s), e, want, len(want), why)
	}
	if !slices.Equal(entries, was) {
		t.Errorf("P11.1: %s: Build changes its entries", what)
	}
}

// wantBlocks: of how many entries the blocks are that are made of these.
func wantBlocks(t *testing.T, what string, entries []api.Entry, size int, want ...int) {
	t.Helper()
	table := opened(t, built(t, entries, size, 1))
	var l []int
	for i := range table.Spans() {
		s, e := table.Block(i)
		if e != api.OK {
			t.Fatalf("P11.4: %s: Block(%d) tells %d", what, i, e)
		}
		in, _ := block.Parse(s)
		l = append(l, len(in))
	}
	if !slices.Equal(l, want) {
		t.Errorf("P11.1: %s, of size %d: the blocks are of %v entries, not of %v", what, size, l, want)
	}
}

// sizes are those that a block may have.
var sizes = []int{1, 2, 3, 16, 100, 4095, 4096}

// TestExamples: the table of one entry, with any size, and that of none, both worked out apart from the program.
func TestExamples(t *testing.T) {
	none := from(t, "00 01 ff fe d2 02 ef 8d 00  00 09 ff f6 f1 72 00 ed 01 00 00 00 00 00 00 00 00"+
		"00 10 ff ef 95 67 f3 f1 00 00 00 00 00 00 00 00 00 00 00 00 00 00 00 09")
	one := from(t, "00 07 ff f8 c2 1b bb bd 02 00 02 61 02 02 00  00 05 ff fa a5 f1 f0 82 02 02 61 00 1e"+
		"00 09 ff f6 c7 c6 3b 14 06 08 40 04 00 02 00 01 80  00 10 ff ef 27 03 d8 cb 00 00 00 00 00 00 00 0f 00 00 00 00 00 00 00 1c")
	for size := 1; size <= 4096; size++ {
		wantBuild(t, "no entries", nil, size, 1, none, api.OK)
		wantBuild(t, "no entries", []api.Entry{}, size, 1, none, api.OK)
		wantBuild(t, "one entry", []api.Entry{{Key: "a", Seq: 1}}, size, 10, one, api.OK)
	}
	for bits := 1; bits <= 16; bits++ {
		filter := filterOf(t, bits)
		wantBuild(t, "no entries", nil, 16, bits, frames("\x00", filter, foot(0, 9)), api.OK)
		wantBuild(t, "one entry", []api.Entry{{Key: "a", Seq: 1}}, 16, bits, one[:28]+frames(filterOf(t, bits, "a"), foot(15, 28)), api.OK)
	}
}

// TestBytes: tables of which all is written out but for the check sums.
func TestBytes(t *testing.T) {
	a, b := from(t, "06 00 02 61 06 02 02 78 02 00 04 00 02 00 02 02 00"), from(t, "02 00 02 62 02 00")
	l := []api.Entry{put("a", 3, "x"), gone("a", 2), put("a", 1, ""), gone("b", 1)}
	filter := filterOf(t, 10, "a", "b")
	// Blocks of two keys; the index tells 25 and 14 bytes.
	wantBuild(t, "two blocks", l, 4, 10, frames(a, b, from(t, "04 02 61 00 32 02 62 32 1c"), filter, foot(39, 56)), api.OK)
	// Blocks that part one key.
	first, second := from(t, "04 00 02 61 06 02 02 78 02 00 04 00"), from(t, "04 00 02 61 02 02 00 00 02 62 02 00")
	wantBuild(t, "a key in two blocks", l, 3, 10, frames(first, second, from(t, "04 02 61 00 28 02 62 28 28"), filter, foot(40, 57)), api.OK)
	// All in one.
	all := from(t, "08 00 02 61 06 02 02 78 02 00 04 00 02 00 02 02 00 00 02 62 02 00")
	for _, size := range []int{5, 6, 100, 4096} {
		wantBuild(t, "one block", l, size, 10, frames(all, from(t, "02 02 62 00 3c"), filter, foot(30, 43)), api.OK)
	}
	// Each alone.
	each := frames(from(t, "02 00 02 61 06 02 02 78"), from(t, "02 00 02 61 04 00"), from(t, "02 00 02 61 02 02 00"), from(t, "02 00 02 62 02 00"))
	index := from(t, "08 02 61 00 20 02 61 20 1c 02 61 3c 1e 02 62 5a 1c")
	wantBuild(t, "blocks of one", l, 1, 10, each+frames(index, filter, foot(59, 84)), api.OK)
}

// TestEvery: a block's 17th key stands there whole, as its first one does.
func TestEvery(t *testing.T) {
	var l []api.Entry
	body := number(33)
	for i := range 33 {
		l = append(l, gone("k", int64(33-i)))
		if i%16 == 0 {
			body += "\x00\x02k" + number(int64(33-i)) + "\x00"
			continue
		}
		body += "\x02\x00" + number(int64(33-i)) + "\x00"
	}
	wantBuild(t, "33 entries", l, 4096, 1, laid(filterOf(t, 1, "k"), piece{"k", frames(body)}), api.OK)
}

// TestFilter: that of all keys in order, each once, with so many bits for each.
func TestFilter(t *testing.T) {
	var l []api.Entry
	var keys []string
	for i := range 40 {
		key := fmt.Sprintf("key %02d", i)
		keys = append(keys, key)
		for seq := 1 + i%4; seq >= 1; seq-- {
			l = append(l, put(key, int64(seq), "x"))
		}
	}
	for bits := 1; bits <= 16; bits++ {
		for _, size := range sizes {
			s, filter := built(t, l, size, bits), filterOf(t, bits, keys...)
			if tail := frames(filter); s[len(s)-24-len(tail):len(s)-24] != tail {
				t.Errorf("P11.1: of size %d and %d bits the filter isn't that of the keys, each once", size, bits)
			}
		}
	}
}

// held: entries of one key, whose keys and values have so many bytes.
func held(bytes ...int) []api.Entry {
	var l []api.Entry
	for i, n := range bytes {
		l = append(l, put("k", int64(len(bytes)-i), strings.Repeat("v", n-1)))
	}
	return l
}

// TestBlocks: where one block ends, and the next one begins.
func TestBlocks(t *testing.T) {
	wantBlocks(t, "none", nil, 1)
	wantBlocks(t, "none", nil, 4096)
	wantBlocks(t, "keys alone", held(1, 1, 1), 1, 1, 1, 1)
	wantBlocks(t, "keys alone", held(1, 1, 1), 2, 2, 1)
	wantBlocks(t, "keys alone", held(1, 1, 1), 3, 3)
	wantBlocks(t, "keys alone", held(1, 1, 1, 1), 3, 3, 1)
	wantBlocks(t, "just as many", held(4, 6, 1), 10, 2, 1)
	wantBlocks(t, "one fewer", held(4, 5, 1, 1), 10, 3, 1)
	wantBlocks(t, "one fewer, and a long one", held(4, 5, 500, 1), 10, 3, 1)
	wantBlocks(t, "one more", held(4, 7, 1), 10, 2, 1)
	wantBlocks(t, "long ones", held(500, 500, 500), 10, 1, 1, 1)
	wantBlocks(t, "a long one ahead", held(500, 1, 1, 1), 3, 1, 3)
	wantBlocks(t, "a long one behind", held(1, 1, 500, 1), 3, 3, 1)
	wantBlocks(t, "the count begins anew", held(9, 1, 9, 1, 9, 1), 10, 2, 2, 2)
	// Gone ones, those with an Until, keys of more bytes.
	l := []api.Entry{gone("aaa", 9), gone("aaa", 1), {Key: "bbb", Seq: 1, Until: math.MaxInt64 - 1}, {Key: "c", Seq: math.MaxInt64, Value: "xx", Until: 1}, gone("d", 1)}
	wantBlocks(t, "of several kinds", l, 3, 1, 1, 1, 1, 1)
	wantBlocks(t, "of several kinds", l, 4, 2, 2, 1)
	wantBlocks(t, "of several kinds", l, 6, 2, 2, 1)
	wantBlocks(t, "of several kinds", l, 7, 3, 2)
	wantBlocks(t, "of several kinds", l, 9, 3, 2)
	wantBlocks(t, "of several kinds", l, 12, 4, 1)
	wantBlocks(t, "of several kinds", l, 13, 5)
	// As long as they may be.
	key, value := strings.Repeat("k", 64), strings.Repeat("v", 512)
	long := []api.Entry{put(key, 9, value), put(key, 8, value), put(key, 7, value), put(key, 6, value), put(key, 5, value), put(key, 4, value), put(key, 3, value), put(key, 2, value), put(key, 1, value)}
	wantBlocks(t, "the longest", long, 576, 1, 1, 1, 1, 1, 1, 1, 1, 1)
	wantBlocks(t, "the longest", long, 577, 2, 2, 2, 2, 1)
	wantBlocks(t, "the longest", long, 4032, 7, 2)
	wantBlocks(t, "the longest", long, 4033, 8, 1)
	wantBlocks(t, "the longest", long, 4096, 8, 1)
}

// many: so many entries of one key and no value.
func many(n int) []api.Entry {
	l := make([]api.Entry, n)
	for i := range l {
		l[i] = gone("k", int64(n-i))
	}
	return l
}

// TestMostInBlock: a block has at most 2048 entries, however few bytes these have.
func TestMostInBlock(t *testing.T) {
	for _, size := range []int{2048, 2049, 4095, 4096} {
		wantBlocks(t, "2047 entries", many(2047), size, 2047)
		wantBlocks(t, "2048 entries", many(2048), size, 2048)
		wantBlocks(t, "2049 entries", many(2049), size, 2048, 1)
		wantBlocks(t, "4097 entries", many(4097), size, 2048, 2048, 1)
	}
	wantBlocks(t, "2048 entries", many(2048), 2047, 2047, 1)
	wantBlocks(t, "4096 entries", many(4096), 2047, 2047, 2047, 2)
	// As many bytes as the frame of a block ever has.
	most := make([]api.Entry, 2049)
	for i := range most {
		most[i] = api.Entry{Key: "k", Seq: math.MaxInt64 - int64(i), Until: math.MaxInt64 - 1}
	}
	most[2047].Value = strings.Repeat("v", 512)
	wantBlocks(t, "2049 great entries", most, 4096, 2048, 1)
}

// TestMost: as many entries as there may be.
func TestMost(t *testing.T) {
	l := many(1 << 16)
	for _, bits := range []int{1, 16} {
		table := opened(t, built(t, l, 4096, bits))
		if n := len(table.Spans()); n != 32 {
			t.Errorf("P11.1: of 65536 entries there are %d blocks", n)
		}
		if all, e := table.All(""); e != api.OK || !slices.Equal(all, l) {
			t.Errorf("P11.4: of 65536 entries All has %d, and %d", len(all), e)
		}
	}
}

// noSizes, noBits are numbers that size, and bits, may not be.
var (
	noSizes = []int{0, -1, -2, -16, -4096, 4097, 4098, 8192, 1<<16 + 16, 1<<32 + 16, math.MaxInt, math.MaxInt - 1, math.MinInt, math.MinInt + 1, math.MinInt + 16}
	noBits  = []int{0, -1, -2, -10, 17, 18, 32, 256 + 10, 1<<32 + 10, math.MaxInt, math.MaxInt - 1, math.MinInt, math.MinInt + 1}
)

// TestWhichError: of Build's errors those of its numbers are told ahead of that of how many entries there are, and this one ahead of block.Ordered's.
func TestWhichError(t *testing.T) {
	good := []api.Entry{put("a", 1, "x"), put("b", 1, "x")}
	bad := []api.Entry{put("a", 1, "x"), {}}
	unordered := []api.Entry{put("b", 1, "x"), put("a", 1, "x")}
	tooMany := make([]api.Entry, 1<<16+1)
	for _, entries := range [][]api.Entry{nil, good, bad, unordered, many(1 << 16), many(1<<16 + 1), tooMany} {
		for _, size := range noSizes {
			wantBuild(t, "no size", entries, size, 10, "", api.ErrArg)
			wantBuild(t, "no size, no bits", entries, size, 17, "", api.ErrArg)
		}
		for _, bits := range noBits {
			wantBuild(t, "no bits", entries, 1, bits, "", api.ErrArg)
			wantBuild(t, "no bits", entries, 4096, bits, "", api.ErrArg)
		}
	}
	for _, size := range sizes {
		wantBuild(t, "too many", many(1<<16+1), size, 1, "", api.ErrLong)
		wantBuild(t, "too many bad ones", tooMany, size, 16, "", api.ErrLong)
		wantBuild(t, "many too many", make([]api.Entry, 1<<17), size, 16, "", api.ErrLong)
		wantBuild(t, "as many bad ones as may be", tooMany[:1<<16], size, 1, "", api.ErrArg)
		wantBuild(t, "a bad one", bad, size, 1, "", api.ErrArg)
		wantBuild(t, "unordered ones", unordered, size, 1, "", api.ErrOrder)
	}
}

// TestBad: block.Ordered's errors, wherever the entry stands.
func TestBad(t *testing.T) {
	for _, x := range []struct {
		entry api.Entry
		why   api.Errno
	}{
		{api.Entry{}, api.ErrArg},
		{gone("", 1), api.ErrArg},
		{gone("m", 0), api.ErrArg},
		{api.Entry{Key: "m", Seq: 1, Until: -1}, api.ErrArg},
		{api.Entry{Key: "m", Seq: 1, Until: math.MaxInt64}, api.ErrArg},
		{api.Entry{Key: "m", Seq: 1, Gone: true, Value: "x"}, api.ErrArg},
		{gone(strings.Repeat("m", 65), 1), api.ErrLong},
		{put("m", 1, strings.Repeat("v", 513)), api.ErrLong},
	} {
		for _, size := range sizes {
			wantBuild(t, "a bad one alone", []api.Entry{x.entry}, size, 10, "", x.why)
			wantBuild(t, "a bad one ahead", []api.Entry{x.entry, gone("z", 1)}, size, 10, "", x.why)
			wantBuild(t, "a bad one behind", []api.Entry{gone("a", 1), x.entry}, size, 10, "", x.why)
			wantBuild(t, "a bad one, and unordered ones", []api.Entry{x.entry, gone("z", 1), gone("a", 1)}, size, 10, "", x.why)
			wantBuild(t, "unordered ones, and a bad one", []api.Entry{gone("z", 1), gone("a", 1), x.entry}, size, 10, "", api.ErrOrder)
		}
	}
	// Also where a block would end between both.
	for _, size := range sizes {
		wantBuild(t, "one twice", []api.Entry{gone("a", 1), gone("a", 1)}, size, 10, "", api.ErrOrder)
		wantBuild(t, "a key by rising Seqs", []api.Entry{gone("a", 1), gone("a", 2)}, size, 10, "", api.ErrOrder)
		wantBuild(t, "a shorter key behind", []api.Entry{gone("ab", 1), gone("a", 2)}, size, 10, "", api.ErrOrder)
	}
}

// TestLongFilter: a filter of just as many bytes as a frame's body may have, and of more.
func TestLongFilter(t *testing.T) {
	keys := make([]api.Entry, 1<<16)
	for i := range keys {
		keys[i] = gone(fmt.Sprintf("%04x", i), 1)
	}
	for _, x := range []struct{ bits, most int }{{16, 32767}, {8, 65534}, {9, 58252}, {12, 43689}} {
		s := built(t, keys[:x.most], 4096, x.bits)
		if !opened(t, s).May("0000") {
			t.Errorf("P11.1: of %d keys and %d bits the filter has none", x.most, x.bits)
		}
		wantBuild(t, "too long a filter", keys[:x.most+1], 4096, x.bits, "", api.ErrLong)
	}
	wantBuild(t, "much too long a filter", keys, 4096, 16, "", api.ErrLong)
	built(t, keys, 4096, 7)
	// Of keys that come twice the filter is no longer.
	twice := make([]api.Entry, 0, 1<<16)
	for _, entry := range keys[:32767] {
		twice = append(twice, gone(entry.Key, 2), entry)
	}
	built(t, twice, 4096, 16)
	wantBuild(t, "too long a filter", append(twice, gone(keys[32767].Key, 1)), 4096, 16, "", api.ErrLong)
}

// indexed: what an index tells of blocks of one entry each, and how many bytes these have.
func indexed(t *testing.T, entries []api.Entry) (string, int) {
	index, at := number(int64(len(entries))), 0
	for _, entry := range entries {
		p := of(t, entry)
		index += text(p.last) + number(int64(at)) + number(int64(len(p.bytes)))
		at += len(p.bytes)
	}
	return index, at
}

// TestLongIndex: an index of just as many bytes as a frame's body may have, and of one more.
func TestLongIndex(t *testing.T) {
	var l []api.Entry
	for i := range 924 {
		l = append(l, gone(fmt.Sprintf("%04d", i)+strings.Repeat("k", 60), 1))
	}
	// Of a block with the longest key the index has 71 bytes. Two more blocks, the last of which has a key of less than that.
	index, _ := indexed(t, l)
	for n := 1; n < 60; n++ {
		l = append(l[:924], gone("y"+strings.Repeat("k", n), 1), gone("z"+strings.Repeat("k", 5), 1))
		if index, _ = indexed(t, l); len(index) == 65535 {
			break
		}
	}
	if len(index) != 65535 {
		t.Fatalf("the index has %d bytes", len(index))
	}
	if all, e := opened(t, built(t, l, 1, 1)).All(""); e != api.OK || !slices.Equal(all, l) {
		t.Errorf("P11.1: with the longest index All has %d entries, and %d", len(all), e)
	}
	longer := slices.Clone(l)
	longer[925].Key += "k"
	if index, _ := indexed(t, longer); len(index) != 65536 {
		t.Fatalf("the index has %d bytes", len(index))
	}
	wantBuild(t, "too long an index", longer, 1, 1, "", api.ErrLong)
	wantBuild(t, "much too long an index", many(1<<16), 1, 1, "", api.ErrLong)
	// In fewer blocks there is room for them.
	built(t, longer, 65, 1)
}

// TestRoomBehind: what lies behind the entries counts for nothing.
func TestRoomBehind(t *testing.T) {
	l := []api.Entry{put("a", 1, "x"), put("b", 1, "y"), {}, put("a", 9, "z")}
	want := built(t, []api.Entry{put("a", 1, "x"), put("b", 1, "y")}, 16, 10)
	wantBuild(t, "with more behind", l[:2], 16, 10, want, api.OK)
	if l[2] != (api.Entry{}) || l[3] != put("a", 9, "z") {
		t.Errorf("P11.1: Build changes what lies behind its entries: %v", l[2:])
	}
}
