package block

import (
	"math"
	"strings"
	"testing"

	"oxbow/api"
)

// TestFind: each key, and some that aren't there, up to each number.
func TestFind(t *testing.T) {
	entries := []api.Entry{
		gone("a", 4),
		put("ab", math.MaxInt64, "last"), put("ab", 7, "seven"), gone("ab", 5), {Key: "ab", Seq: 2, Value: "two", Until: 10}, gone("ab", 1),
		put("ab\x00", 3, "x"),
		put("b", 6, ""), put("b", 5, "five"),
		put(key, 9, value),
		gone("\xff", 1),
	}
	keys := []string{"", "\x00", "a", "a\x00", "aa", "ab", "ab\x00", "ab\x00\x00", "abc", "b", "c", key[1:], key, key + "k", "z", "\xff", "\xff\xff", strings.Repeat("a", 1<<17)}
	seqs := []int64{math.MinInt64, math.MinInt64 + 1, -1, 0, 1, 2, 3, 4, 5, 6, 7, 8, 9, 10, 1 << 32, math.MaxInt64 - 1, math.MaxInt64}
	found := 0
	for n := range len(entries) + 1 {
		for _, every := range []int{1, 3, 64} {
			s, e := Build(entries[:n], every)
			if e != api.OK {
				t.Fatalf("P10.2: Build is %d", e)
			}
			for _, k := range keys {
				for _, seq := range seqs {
					want, there := modelFind(entries[:n], k, seq)
					wantFind(t, "a few entries", s, k, seq, want, there, api.OK)
					if there {
						found++
					}
				}
			}
		}
	}
	if found < 500 {
		t.Errorf("%d are found: too few to tell anything", found)
	}
}

// TestFindRows: what a few searches tell, written out.
func TestFindRows(t *testing.T) {
	a5, a3, b4 := put("a", 5, "x"), gone("a", 3), api.Entry{Key: "b", Seq: 4, Value: "y", Until: 10}
	s := from(t, "06  00 02 61 0a 02 02 78  02 00 06 00  00 02 62 08 16 02 79")
	for _, x := range []struct {
		key  string
		seq  int64
		want api.Entry
	}{
		{"a", math.MaxInt64, a5},
		{"a", 6, a5},
		{"a", 5, a5},
		{"a", 4, a3}, // a gone one is there too
		{"a", 3, a3},
		{"b", 5, b4}, // and one with an Until, whatever the time
		{"b", 4, b4},
	} {
		wantFind(t, "there", s, x.key, x.seq, x.want, true, api.OK)
	}
	for _, x := range []struct {
		key string
		seq int64
	}{
		{"a", 2}, {"a", 0}, {"a", -1}, {"a", math.MinInt64}, {"b", 3}, {"", 9}, {"aa", 9}, {"A", 9}, {"ab", 9}, {"c", 9}, {"c", 0}, {"b\x00", 9},
	} {
		wantFind(t, "not there", s, x.key, x.seq, api.Entry{}, false, api.OK)
	}
	wantFind(t, "of no entries", "\x00", "a", 9, api.Entry{}, false, api.OK)
	wantFind(t, "of no entries", "\x00", "", 0, api.Entry{}, false, api.OK)
}

// TestFindFaults: a fault anywhere is told, also behind the entry that is looked for, and with a key that can't be there.
func TestFindFaults(t *testing.T) {
	a := "\x00\x02a\x02\x02\x02x"
	for s, why := range map[string]api.Errno{
		"":                                     api.ErrShort,
		"\x80\x00":                             api.ErrForm,
		"\x01":                                 api.ErrForm,
		"\x82\x40" + a:                         api.ErrLong,
		"\x02" + a + "\x00":                    api.ErrForm,
		"\x04" + a:                             api.ErrShort,
		"\x04" + a + "\x04":                    api.ErrForm,
		"\x04" + a + "\x00\x02b\x00\x00":       api.ErrArg,
		"\x04" + a + a:                         api.ErrOrder,
		"\x04" + a + "\x00\x80\x80\x08":        api.ErrLong,
		"\x02\x00\x82\x01" + key + "k\x02\x00": api.ErrLong,
	} {
		for _, k := range []string{"a", "b", "", "0", key + "k"} {
			for _, seq := range []int64{math.MinInt64, 0, 1, math.MaxInt64} {
				wantFind(t, "a fault", s, k, seq, api.Entry{}, false, why)
			}
		}
	}
}
