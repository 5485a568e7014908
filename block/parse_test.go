package block

import (
	"fmt"
	"math"
	"strings"
	"testing"

	"oxbow/api"
)

// TestCut: of bytes that are cut off anywhere, and of those with more behind them, there are no entries.
func TestCut(t *testing.T) {
	for i, x := range rows() {
		s := from(t, x.want)
		for at := range len(s) {
			wantParse(t, fmt.Sprintf("row %d up to %d", i, at), s[:at], nil, api.ErrShort)
		}
		for _, more := range []string{"\x00", "\x01", "\x02", "\x80", "\xff", s, "\x00\x02z\x02\x00", strings.Repeat("\xff", 20), strings.Repeat("x", 1<<17)} {
			wantParse(t, fmt.Sprintf("row %d and %.20x", i, more), s+more, nil, api.ErrForm)
		}
	}
}

// TestCount: the errors of how many there are.
func TestCount(t *testing.T) {
	for _, x := range []struct {
		digits string
		why    api.Errno
	}{
		{"", api.ErrShort},
		{"80", api.ErrShort},
		{"ff ff ff ff ff ff ff ff ff", api.ErrShort},
		{"80 00", api.ErrForm},
		{"82 00 00 02 61 02 00", api.ErrForm},
		{"ff ff ff ff ff ff ff ff ff ff", api.ErrForm},
		{"ff ff ff ff ff ff ff ff ff 02", api.ErrForm},
		{"01", api.ErrForm}, // -1
		{"03 00 02 61 02 00", api.ErrForm},
		{"81 40", api.ErrForm},                         // -4097
		{"ff ff ff ff ff ff ff ff ff 01", api.ErrForm}, // the least
		{"fe ff ff ff ff ff ff ff ff 01", api.ErrLong}, // the greatest
		{"82 40", api.ErrLong},                         // 4097
		{"82 40 00", api.ErrLong},
		{"82 40 80 00", api.ErrLong},
		{"80 80 80 80 20", api.ErrLong},    // 2^32
		{"82 80 80 80 20", api.ErrLong},    // 2^32 + 1
		{"80 80 80 80 80 40", api.ErrLong}, // 2^40
		{"80 40", api.ErrShort},            // 4096
		{"80 40 01", api.ErrForm},
		{"fe 3f", api.ErrShort}, // 4095
		{"02", api.ErrShort},
		{"00 00", api.ErrForm},
	} {
		wantParse(t, "how many", from(t, x.digits), nil, x.why)
	}
}

// TestTooMany: entries that would be in order, but for how many they are.
func TestTooMany(t *testing.T) {
	for _, n := range []int64{4097, 4098, 5000} {
		s := string(number(n)) + modelEntries(falling(int(n)), func(int) int { return 0 })
		wantParse(t, "too many", s, nil, api.ErrLong)
	}
	s := string(number(4096)) + modelEntries(falling(4096), func(int) int { return 0 })
	wantParse(t, "as many as may be", s, falling(4096), api.OK)
	wantParse(t, "one more than told", s+"\x00\x02l\x02\x00", nil, api.ErrForm)
}

// entryFaults are bytes with which an entry begins that stands first or behind one of a key below h, and its error.
var entryFaults = []struct {
	digits string
	why    api.Errno
}{
	// What is shared.
	{"80 00", api.ErrForm},
	{"82 00", api.ErrForm},
	{"ff ff ff ff ff ff ff ff ff ff", api.ErrForm},
	{"01", api.ErrForm},
	{"01 02 68 02 00", api.ErrForm},
	{"ff ff ff ff ff ff ff ff ff 01", api.ErrForm},
	{"fe ff ff ff ff ff ff ff ff 01", api.ErrForm},
	{"04", api.ErrForm},
	{"04 02 68 02 00", api.ErrForm},
	{"04 80 80 08", api.ErrForm},
	{"80 80 80 80 20 02 68 02 00", api.ErrForm}, // 2^32
	// The rest of the key.
	{"00 80 00", api.ErrForm},
	{"00 ff ff ff ff ff ff ff ff ff ff", api.ErrForm},
	{"00 01", api.ErrForm},
	{"00 ff ff ff ff ff ff ff ff ff 01", api.ErrForm},
	{"00 80 80 08 00 00 00", api.ErrLong},             // 65536
	{"00 fe ff ff ff ff ff ff ff ff 01", api.ErrLong}, // the greatest
	// The Seq.
	{"00 02 68 80 00", api.ErrForm},
	{"00 02 68 82 00 00", api.ErrForm},
	{"00 02 68 ff ff ff ff ff ff ff ff ff 02", api.ErrForm},
	{"00 02 68 ff ff ff ff ff ff ff ff ff ff", api.ErrForm},
	// The Until.
	{"00 02 68 02 80 00", api.ErrForm},
	{"00 02 68 02 81 00", api.ErrForm},
	{"00 02 68 02 ff ff ff ff ff ff ff ff ff 02", api.ErrForm},
	{"00 02 68 02 01", api.ErrForm},
	{"00 02 68 02 01 02 78", api.ErrForm},
	{"00 02 68 02 ff ff ff ff ff ff ff ff ff 01", api.ErrForm}, // the least
	// The value.
	{"00 02 68 02 02 80 00", api.ErrForm},
	{"00 02 68 02 02 01", api.ErrForm},
	{"00 02 68 02 02 80 80 08 00", api.ErrLong},
	{"00 02 68 02 04 fe ff ff ff ff ff ff ff ff 01", api.ErrLong},
	// Layer 6's.
	{"00 00 02 00", api.ErrArg},
	{"00 00 02 02 00", api.ErrArg},
	{"00 00 02 02 02 78", api.ErrArg},
	{"00 02 68 00 00", api.ErrArg},
	{"00 02 68 01 00", api.ErrArg},
	{"00 02 68 00 02 02 78", api.ErrArg},
	{"00 02 68 ff ff ff ff ff ff ff ff ff 01 00", api.ErrArg}, // the least
	{"00" + hexKey65 + "02 00", api.ErrLong},
	{"00" + hexKey65 + "02 02 00", api.ErrLong},
	{"00" + hexKey65 + "00 00", api.ErrLong},
	{"00 02 68 02 02" + hexValue513, api.ErrLong},
	{"00 00 00 02" + hexValue513, api.ErrLong},
	{"00 fe ff 07" + strings.Repeat("68", 65535) + "02 00", api.ErrLong},
	{"00 02 68 02 02 fe ff 07" + strings.Repeat("76", 65535), api.ErrLong},
	// Ahead of layer 6's error what comes behind in the entry.
	{"00 00 80 00", api.ErrForm},
	{"00 00 02 01", api.ErrForm},
	{"00 02 68 00 80 00", api.ErrForm},
	{"00 02 68 00 01", api.ErrForm},
	{"00 02 68 01 02 01", api.ErrForm},
	{"00 02 68 00 02 80 80 08", api.ErrLong},
	{"00" + hexKey65 + "80 00", api.ErrForm},
	{"00" + hexKey65 + "02 01", api.ErrForm},
	{"00" + hexKey65 + "02 02 01", api.ErrForm},
}

// Texts that are longer than a key, a value may be, as bytes of layer 1 in digits.
var (
	hexKey65    = "82 01" + strings.Repeat("68", 65)
	hexValue513 = "82 08" + strings.Repeat("76", 513)
)

// TestEntry: the errors of an entry, alone, behind good ones, and ahead of what is bad too, as the first one from the left is told.
func TestEntry(t *testing.T) {
	for _, x := range entryFaults {
		bytes := from(t, x.digits)
		wantParse(t, "an entry alone", "\x02"+bytes, nil, x.why)
		wantParse(t, "an entry behind a put one", "\x04\x00\x02g\x04\x02\x02x"+bytes, nil, x.why)
		wantParse(t, "an entry behind a gone one", "\x04\x00\x02g\x04\x00"+bytes, nil, x.why)
		wantParse(t, "an entry behind two", "\x06\x00\x02f\x04\x00\x00\x02g\x04\x00"+bytes, nil, x.why)
		for _, behind := range []string{"\x80\x00", "\x01", "\x00\x00", "\x00\x80\x80\x08", "\x00\x02a\x01\x00", "\x00\x02z\x02\x00", "\x00\x02a\x02\x00"} {
			wantParse(t, "an entry ahead of another one", "\x04"+bytes+behind, nil, x.why)
			wantParse(t, "an entry ahead of what is left", "\x02"+bytes+behind, nil, x.why)
		}
	}
}

// TestShortEntry: what isn't there of an entry is told ahead of layer 6's error of it, and ahead of its order.
func TestShortEntry(t *testing.T) {
	for _, digits := range []string{
		"", "80", "00", "00 80", "00 02", "00 04 68", "00 fe ff 07", "00 fe ff 07 68",
		"00 00", "00 00 80", "00 00 02", "00 00 02 80", "00 00 02 02", "00 00 02 02 02",
		"00" + hexKey65, "00" + hexKey65 + "02", "00" + hexKey65 + "02 02", "00" + hexKey65 + "02 02 82",
		"00 02 68", "00 02 68 80", "00 02 68 02", "00 02 68 02 80", "00 02 68 02 02", "00 02 68 02 02 80", "00 02 68 02 02 04 78",
		"00 02 68 00", "00 02 68 00 02", "00 02 68 01 02 02",
		"00 02 68 02 02" + hexValue513[:len(hexValue513)-2], "00 02 68 02 02 fe ff 07 78",
		"00 02 66", "00 02 66 02", "00 02 66 02 02", "00 02 66 02 02 02",
	} {
		wantParse(t, "a short entry", "\x02"+from(t, digits), nil, api.ErrShort)
		wantParse(t, "a short entry behind another one", "\x04\x00\x02g\x02\x02\x02x"+from(t, digits), nil, api.ErrShort)
	}
}

// TestShared: how much a key may share with the one ahead, and what it is then.
func TestShared(t *testing.T) {
	ahead := gone("abc", 5)
	for shared, at := range []string{"\x00", "\x02", "\x04", "\x06"} {
		for _, rest := range []string{"d", "dd", "\xff", "dabc"} {
			key := "abc"[:shared] + rest
			s := "\x04\x00\x06abc\x0a\x00" + at + string(number(int64(len(rest)))) + rest + "\x06\x02\x02x"
			wantParse(t, "a key that shares", s, []api.Entry{ahead, put(key, 3, "x")}, api.OK)
		}
	}
	wantParse(t, "a key that shares all", "\x04\x00\x06abc\x0a\x00\x06\x00\x08\x00", []api.Entry{ahead, gone("abc", 4)}, api.OK)
	for _, n := range []int64{4, 5, 64, 65, 3 + 256, 1<<32 + 3, math.MaxInt64, -1, -2, -3, -4, math.MinInt64, math.MinInt64 + 3} {
		wantParse(t, "a key that shares more than there is", "\x04\x00\x06abc\x0a\x00"+string(number(n))+"\x02d\x06\x00", nil, api.ErrForm)
		wantParse(t, "a key that shares more than there is, and is cut off", "\x04\x00\x06abc\x0a\x00"+string(number(n)), nil, api.ErrForm)
	}
	// Of the first one there is nothing.
	for _, n := range []int64{1, 2, 64, 1 << 32, math.MaxInt64, -1, math.MinInt64} {
		wantParse(t, "a first key that shares", "\x02"+string(number(n))+"\x02d\x06\x00", nil, api.ErrForm)
	}
	// It is the whole key ahead with which one is shared, not the rest of it, nor a key further ahead.
	two := "\x00\x08abcd\x02\x00" + "\x04\x02d\x02\x00" // abcd, abd
	wantParse(t, "a key that shares with one that does", "\x06"+two+"\x06\x02a\x02\x00", []api.Entry{gone("abcd", 1), gone("abd", 1), gone("abda", 1)}, api.OK)
	wantParse(t, "a key that shares more than the next one ahead has", "\x06"+two+"\x08\x02a\x02\x00", nil, api.ErrForm)
	two = "\x00\x02a\x02\x00" + "\x02\x04bc\x02\x00" // a, abc
	wantParse(t, "a key that shares all of a longer one", "\x06"+two+"\x06\x02d\x02\x00", []api.Entry{gone("a", 1), gone("abc", 1), gone("abcd", 1)}, api.OK)
	// A key may have as many bytes as any, also where it shares most of them.
	s := "\x04\x00\x7e" + key[1:] + "\x02\x00"
	wantParse(t, "a key of 64", s+"\x7e\x02k\x02\x00", []api.Entry{gone(key[1:], 1), gone(key, 1)}, api.OK)
	wantParse(t, "a key of 65", s+"\x7e\x04kk\x02\x00", nil, api.ErrLong)
	wantParse(t, "a key of 65", s+"\x02\x80\x01"+key+"\x02\x00", nil, api.ErrLong)
	wantParse(t, "a key of more bytes than a text may have", s+"\x7e\xfe\xff\x07"+strings.Repeat("k", 65535)+"\x02\x00", nil, api.ErrLong)
}

// TestSharedLess: entries that share less than Build has them do, or more, are the same ones.
func TestSharedLess(t *testing.T) {
	var entries []api.Entry
	for i := range 100 {
		entries = append(entries, put(fmt.Sprintf("key %02d", i/2), int64(2-i%2), "x"))
	}
	for name, shared := range map[string]func(i, most int) int{
		"nothing":          func(i, most int) int { return 0 },
		"a byte":           func(i, most int) int { return min(1, most) },
		"a byte less":      func(i, most int) int { return max(0, most-1) },
		"half":             func(i, most int) int { return most / 2 },
		"all, always":      func(i, most int) int { return most },
		"now so, now else": func(i, most int) int { return i % (most + 1) },
	} {
		s := string(number(100)) + modelEntries(entries, func(i int) int {
			if i == 0 {
				return 0
			}
			return shared(i, modelShared(entries[i-1].Key, entries[i].Key))
		})
		wantParse(t, "entries that share "+name, s, entries, api.OK)
		wantFind(t, "entries that share "+name, s, "key 33", 1, entries[67], true, api.OK)
	}
}

// TestParseOrder: entries out of order, behind g with the Seq 5.
func TestParseOrder(t *testing.T) {
	ahead := gone("g", 5)
	for _, x := range []struct {
		digits string
		want   api.Entry
		why    api.Errno
	}{
		{"02 00 08 00", gone("g", 4), api.OK},
		{"00 02 67 08 00", gone("g", 4), api.OK},
		{"02 00 02 02 02 78", put("g", 1, "x"), api.OK},
		{"02 02 00 0c 00", gone("g\x00", 6), api.OK},
		{"00 02 68 0c 00", gone("h", 6), api.OK},
		{"02 00 0a 00", api.Entry{}, api.ErrOrder},
		{"02 00 0a 02 02 78", api.Entry{}, api.ErrOrder},
		{"00 02 67 0a 00", api.Entry{}, api.ErrOrder},
		{"02 00 0c 00", api.Entry{}, api.ErrOrder},
		{"02 00 fe ff ff ff ff ff ff ff ff 01 00", api.Entry{}, api.ErrOrder},
		{"00 02 66 02 00", api.Entry{}, api.ErrOrder},
		{"00 02 66 02 02 02 78", api.Entry{}, api.ErrOrder},
		{"00 04 66 68 02 00", api.Entry{}, api.ErrOrder},
		// Layer 6's error is told ahead of it,
		{"02 00 00 00", api.Entry{}, api.ErrArg},
		{"00 02 66 00 00", api.Entry{}, api.ErrArg},
		{"00 00 02 00", api.Entry{}, api.ErrArg},
		{"00 82 01" + strings.Repeat("61", 65) + "02 00", api.Entry{}, api.ErrLong},
		{"02 00 0a 02" + hexValue513, api.Entry{}, api.ErrLong},
		// and so is what can't be read of the entry.
		{"02 01", api.Entry{}, api.ErrForm},
		{"02 00 80 00", api.Entry{}, api.ErrForm},
		{"02 00 0c 01", api.Entry{}, api.ErrForm},
		{"02 00 0c 02 01", api.Entry{}, api.ErrForm},
		{"00 02 66 02 02 80 80 08", api.Entry{}, api.ErrLong},
		{"00 02 66 02 02 02", api.Entry{}, api.ErrShort},
	} {
		s := "\x00\x02g\x0a\x00" + from(t, x.digits)
		if x.why == api.OK {
			wantParse(t, "in order", "\x04"+s, []api.Entry{ahead, x.want}, api.OK)
			continue
		}
		wantParse(t, "out of order", "\x04"+s, nil, x.why)
		wantParse(t, "out of order behind another one", "\x06\x00\x02a\x02\x00"+s, nil, x.why)
		if x.why == api.ErrShort {
			continue
		}
		for _, behind := range []string{"\x80\x00", "\x01", "\x00\x00", "\x00\x80\x80\x08", "\x00\x02z\x02\x00"} {
			wantParse(t, "out of order ahead of another one", "\x06"+s+behind, nil, x.why)
			wantParse(t, "out of order ahead of what is left", "\x04"+s+behind, nil, x.why)
		}
		wantParse(t, "out of order ahead of one that isn't there", "\x06"+s, nil, x.why)
	}
}

// TestUntil: what the number tells that isn't 0.
func TestUntil(t *testing.T) {
	for _, until := range []int64{0, 1, 2, 61, 62, 63, 64, 1 << 32, math.MaxInt64 - 2, math.MaxInt64 - 1} {
		s := "\x02\x00\x02a\x06" + string(number(until+1))
		wantParse(t, "an Until", s+"\x00", []api.Entry{{Key: "a", Seq: 3, Until: until}}, api.OK)
		wantParse(t, "an Until", s+"\x02x", []api.Entry{{Key: "a", Seq: 3, Until: until, Value: "x"}}, api.OK)
		wantParse(t, "an Until without a value", s, nil, api.ErrShort)
	}
	wantParse(t, "a gone one with a value", "\x02\x00\x02a\x06\x00\x02x", nil, api.ErrForm)
}
