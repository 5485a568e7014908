package bloom

import (
	"go/ast"
	"go/parser"
	"go/token"
	"math"
	"reflect"
	"slices"
	"strconv"
	"strings"
	"testing"

	"oxbow/api"
)

// TestWays: ways of layer 9: keys come in through a variadic function; bits are looked at by a closure.
func TestWays(t *testing.T) {
	if !reflect.TypeOf(New).IsVariadic() {
		t.Error("New isn't variadic")
	}
	file, err := parser.ParseFile(token.NewFileSet(), "bloom.go", nil, 0)
	if err != nil {
		t.Fatal(err)
	}
	looks := 0
	ast.Inspect(file, func(n ast.Node) bool {
		f, ok := n.(*ast.FuncDecl)
		if !ok || f.Name.Name != "Has" {
			return true
		}
		ast.Inspect(f, func(n ast.Node) bool {
			if closure, ok := n.(*ast.FuncLit); ok && masks(closure) {
				looks++
			}
			return true
		})
		return false
	})
	if looks != 1 {
		t.Errorf("Has has %d closures that look at a bit", looks)
	}
}

// masks: does the closure take a bit out of an element of a text?
func masks(closure *ast.FuncLit) bool {
	found := false
	ast.Inspect(closure, func(n ast.Node) bool {
		if x, ok := n.(*ast.BinaryExpr); ok && x.Op == token.AND {
			_, found = x.X.(*ast.IndexExpr)
		}
		return !found
	})
	return found
}

// places are keys with their bits, worked out apart from the program.
var places = []struct {
	key          string
	probes, size int
	want         []int
}{
	{"", 1, 1, []int{0}},
	{"", 8, 64, []int{0, 3, 6, 9, 12, 15, 18, 21}},
	{"", 3, 7, []int{0, 1, 2}},
	{"", 8, 1 << 24, []int{0, 14423683, 12070150, 9716617, 7363084, 5009551, 2656018, 302485}},
	{"", 6, 1000003, []int{0, 226834, 453668, 680502, 907336, 134167}},
	{"a", 1, 1, []int{0}},
	{"a", 8, 64, []int{3, 18, 33, 48, 63, 14, 29, 44}},
	{"a", 6, 64, []int{3, 18, 33, 48, 63, 14}},
	{"a", 1, 64, []int{3}},
	{"a", 3, 7, []int{4, 3, 2}},
	{"a", 8, 1 << 24, []int{12041795, 4353810, 13443041, 5755056, 14844287, 7156302, 16245533, 8557548}},
	{"a", 6, 1000003, []int{344195, 671244, 998293, 325339, 652388, 979437}}, // all but the first go over 32 bits
	{"abc", 3, 7, []int{5, 5, 5}}, // a bit more than once
	{"abc", 6, 1000003, []int{565905, 384605, 203305, 22005, 840708, 659408}},
	{"123456789", 8, 64, []int{38, 56, 10, 28, 46, 0, 18, 36}},
	{"123456789", 8, 1 << 24, []int{16005414, 14531000, 13056586, 11582172, 10107758, 8633344, 7158930, 5684516}},
	{"\x00", 8, 64, []int{13, 14, 15, 16, 17, 18, 19, 20}},
	{"\x00", 3, 7, []int{2, 5, 1}},
	{"\xff\xff\xff\xff", 8, 64, []int{63, 47, 31, 15, 63, 47, 31, 15}},
	{"\xff\xff\xff\xff", 6, 1000003, []int{954413, 280632, 606854, 933076, 259295, 585517}},
	{"x", 8, 64, []int{3, 18, 33, 48, 63, 14, 29, 44}},
	{"x", 6, 1000003, []int{226834, 715636, 204435, 693237, 182036, 670838}},
}

// filters are keys with the filter of so many bits for each, worked out apart from the program.
var filters = []struct {
	bits int
	keys []string
	want string
}{
	{10, nil, "\x06\x00\x00\x00\x00\x00\x00\x00\x00"},
	{1, []string{}, "\x01\x00\x00\x00\x00\x00\x00\x00\x00"},
	{16, nil, "\x08\x00\x00\x00\x00\x00\x00\x00\x00"},
	{10, []string{"a"}, "\x06\x08\x40\x04\x00\x02\x00\x01\x80"},
	{1, []string{"a"}, "\x01\x08\x00\x00\x00\x00\x00\x00\x00"},
	{16, []string{"a"}, "\x08\x08\x40\x04\x20\x02\x10\x01\x80"},
	{10, []string{""}, "\x06\x49\x92\x00\x00\x00\x00\x00\x00"},
	{10, []string{"a", "a"}, "\x06\x08\x40\x04\x00\x02\x00\x01\x80"},
	{10, []string{"a", "b", ""}, "\x06\x4d\xf2\x04\x01\x0a\x40\x01\x82"},
	{10, []string{"", "b", "a"}, "\x06\x4d\xf2\x04\x01\x0a\x40\x01\x82"},
	{13, []string{"a", "b", "c", "d", "e"}, "\x08\x54\x10\xf8\x1f\x53\x39\x31\x94\xc6"},
	{10, slices.Repeat([]string{"a"}, 7), "\x06\x00\x00\xc0\x0f\x00\x00\x00\x00\x00"}, // a key counts as often as it is handed in
	{16, []string{"a", "b", "c", "d", "e"}, "\x08\x57\xf0\x06\x71\x94\x1b\x01\x51\x2c\x14"},
}

// probes are how many a filter has of so many bits for each key, from 1 on.
var probes = []byte{1, 1, 2, 2, 3, 4, 4, 5, 6, 6, 7, 8, 8, 8, 8, 8}

// noProbes and noSizes aren't such; noBits isn't a number of bits for each key.
var (
	noProbes = []int{0, -1, -2, -8, 9, 10, 255, 256, 257, 1 << 32, 1<<32 + 1, math.MaxInt, math.MaxInt - 1, math.MinInt, math.MinInt + 1}
	noSizes  = []int{0, -1, -2, -64, 1<<24 + 1, 1<<24 + 8, 1 << 25, 1 << 32, 1<<32 + 64, math.MaxInt, math.MaxInt - 1, math.MinInt, math.MinInt + 1}
	noBits   = []int{0, -1, -2, -10, 17, 18, 32, 256 + 10, 1<<32 + 10, math.MaxInt, math.MaxInt - 1, math.MinInt, math.MinInt + 1}
)

// named: so many keys, each another one.
func named(n int) []string {
	keys := make([]string, n)
	for i := range keys {
		keys[i] = "key " + strconv.Itoa(i)
	}
	return keys
}

// zeros: a filter with so many bytes of bits, none of them set.
func zeros(probes byte, n int) string {
	return string([]byte{probes}) + strings.Repeat("\x00", n)
}

// with: a filter in which some bits are set too.
func with(filter string, places ...int) string {
	b := []byte(filter)
	for _, p := range places {
		b[1+p/8] |= 1 << (p % 8)
	}
	return string(b)
}

// without: a filter in which a bit isn't set.
func without(filter string, place int) string {
	b := []byte(filter)
	b[1+place/8] &^= 1 << (place % 8)
	return string(b)
}

func wantPlaces(t *testing.T, key string, probes, size int, want []int) {
	t.Helper()
	if l := Places(key, probes, size); !slices.Equal(l, want) {
		t.Errorf("P9.1: Places(%.40q, %d, %d) is %v, not %v", key, probes, size, l, want)
	}
}

func wantNew(t *testing.T, bits int, keys []string, want string, why api.Errno) {
	t.Helper()
	if s, e := New(bits, keys...); s != want || e != why {
		t.Errorf("P9.2: New(%d, %.40q), of %d keys, is %.40x, of %d bytes, and %d, not %.40x, of %d, and %d", bits, keys[:min(4, len(keys))], len(keys), s, len(s), e, want, len(want), why)
	}
}

func wantHas(t *testing.T, filter, key string, want bool) {
	t.Helper()
	if is := Has(filter, key); is != want {
		t.Errorf("P9.3: Has(%.40x, %.40q), of a filter of %d bytes, is %t", filter, key, len(filter), is)
	}
}

// made: New's filter.
func made(t *testing.T, bits int, keys ...string) string {
	t.Helper()
	s, e := New(bits, keys...)
	if e != api.OK {
		t.Fatalf("P9.2: New(%d), of %d keys, tells %d", bits, len(keys), e)
	}
	return s
}

func TestExample(t *testing.T) {
	s := made(t, 10, "a")
	if len(s) != 1+8 || s[0] != 6 {
		t.Errorf("example: New(10, \"a\") is %x", s)
	}
}

func TestPlaces(t *testing.T) {
	for _, p := range places {
		wantPlaces(t, p.key, p.probes, p.size, p.want)
	}
}

func TestNoPlaces(t *testing.T) {
	for _, key := range []string{"", "a", strings.Repeat("b", 1e6)} {
		for _, n := range noProbes {
			for _, size := range append(noSizes, 1, 64, 1<<24) {
				wantPlaces(t, key, n, size, nil)
			}
		}
		for _, size := range noSizes {
			for n := 1; n <= 8; n++ {
				wantPlaces(t, key, n, size, nil)
			}
		}
	}
}

func TestPlacesAreNew(t *testing.T) {
	l := Places("a", 8, 64)
	clear(l)
	wantPlaces(t, "a", 8, 64, []int{3, 18, 33, 48, 63, 14, 29, 44})
}

func TestNew(t *testing.T) {
	for _, f := range filters {
		wantNew(t, f.bits, f.keys, f.want, api.OK)
	}
}

// TestNewSizes: probes and bytes of each number of bits, on both sides of each border of a byte.
func TestNewSizes(t *testing.T) {
	keys := named(1000)
	for i, want := range probes {
		bits := i + 1
		for _, n := range []int{0, 1, 2, 3, 4, 5, 6, 7, 8, 9, 10, 63, 64, 65, 66, 72, 73, 127, 128, 129, 1000} {
			s := made(t, bits, keys[:n]...)
			size := bits * n / 8
			if bits*n%8 > 0 {
				size++
			}
			size = max(size, 8)
			if s[0] != want || len(s) != 1+size {
				t.Errorf("P9.2: New(%d), of %d keys, has %d probes and %d bytes, not %d and %d", bits, n, s[0], len(s)-1, want, size)
			}
		}
	}
}

func TestNewFaults(t *testing.T) {
	many := make([]string, 1<<16+2)
	for _, bits := range noBits {
		for _, keys := range [][]string{nil, {""}, {"a", "b"}, many[:1<<16], many[:1<<16+1], many} {
			wantNew(t, bits, keys, "", api.ErrArg)
		}
	}
	for bits := 1; bits <= 16; bits++ {
		wantNew(t, bits, many[:1<<16+1], "", api.ErrLong)
		wantNew(t, bits, many, "", api.ErrLong)
	}
}

// TestNewMost: the greatest number of keys, all of which the filter has.
func TestNewMost(t *testing.T) {
	keys := named(1 << 16)
	for _, bits := range []int{1, 16} {
		s := made(t, bits, keys...)
		if len(s) != 1+bits<<13 {
			t.Errorf("P9.2: New(%d), of %d keys, has %d bytes", bits, len(keys), len(s))
		}
		for _, key := range keys {
			wantHas(t, s, key, true)
		}
	}
}

// TestNewKeys: what is handed in stays as it is, and what lies behind it counts for nothing.
func TestNewKeys(t *testing.T) {
	keys := []string{"b", "a", "b", "c", "c", "c", "c", "c"}
	given := slices.Clone(keys)
	s := made(t, 10, keys[:3]...)
	if !slices.Equal(keys, given) {
		t.Errorf("New made %q of %q", keys, given)
	}
	if other := made(t, 10, "b", "a", "b"); s != other {
		t.Errorf("P9.2: New is %x, not %x, where there is more behind the keys", s, other)
	}
	keys[0] = "d"
	wantHas(t, s, "b", true)
}

func TestHas(t *testing.T) {
	for _, f := range filters {
		for _, key := range f.keys {
			wantHas(t, f.want, key, true)
		}
	}
	for _, f := range filters[:3] { // of no keys
		for _, key := range []string{"", "a", "b", "\x00", strings.Repeat("c", 1e6)} {
			wantHas(t, f.want, key, false)
		}
	}
	wantHas(t, "\x06\x08\x40\x04\x00\x02\x00\x01\x80", "b", false)
	wantHas(t, "\x06\x08\x40\x04\x00\x02\x00\x01\x80", "", false)
	wantHas(t, "\x06\x08\x40\x04\x00\x02\x00\x01\x80", "x", true) // its bits are those of a, as it happens
}

// TestHasEachBit: with all bits of a key and no others, with one of these left out, and with all other bits too.
func TestHasEachBit(t *testing.T) {
	for _, p := range places {
		if p.size%8 != 0 {
			continue
		}
		none := zeros(byte(p.probes), p.size/8)
		just := with(none, p.want...)
		full := string([]byte{byte(p.probes)}) + strings.Repeat("\xff", p.size/8)
		wantHas(t, none, p.key, false)
		wantHas(t, just, p.key, true)
		wantHas(t, full, p.key, true)
		for _, place := range p.want {
			wantHas(t, without(just, place), p.key, false)
			wantHas(t, without(full, place), p.key, false)
		}
	}
}

// TestHasFewer: bits that a filter of fewer probes doesn't ask for.
func TestHasFewer(t *testing.T) {
	l := []int{3, 18, 33, 48, 63, 14, 29, 44}
	for n := 1; n <= 8; n++ {
		wantHas(t, with(zeros(byte(n), 8), l[:n]...), "a", true)
		wantHas(t, with(zeros(byte(n), 8), l[:n-1]...), "a", false)
		wantHas(t, with(zeros(byte(n), 8), l[1:]...), "a", false)
	}
}

func TestHasNoFilter(t *testing.T) {
	const most = 1 << 21
	for _, key := range []string{"", "a", "\x00", strings.Repeat("b", 1e5)} {
		wantHas(t, "", key, true)
		for b := range 256 {
			known := b >= 1 && b <= 8
			wantHas(t, zeros(byte(b), 0), key, true)
			wantHas(t, zeros(byte(b), 1), key, !known)
			wantHas(t, zeros(byte(b), 2), key, !known)
			wantHas(t, zeros(byte(b), 8), key, !known)
		}
		for _, probes := range []byte{1, 8} {
			wantHas(t, zeros(probes, most-1), key, false)
			wantHas(t, zeros(probes, most), key, false)
			wantHas(t, zeros(probes, most+1), key, true)
			wantHas(t, zeros(probes, most+2), key, true)
			wantHas(t, zeros(probes, 8*most), key, true)
		}
		wantHas(t, zeros(0, most), key, true)
		wantHas(t, zeros(9, most), key, true)
	}
}

// TestAbsent: of keys that weren't handed in most aren't told; of keys of one length more are than of any keys, since each one's second sum hangs on the first alone.
func TestAbsent(t *testing.T) {
	keys := named(4000)
	s := made(t, 10, keys[:2000]...)
	told := 0
	for _, key := range keys[2000:] {
		if Has(s, key) {
			told++
		}
	}
	if told > 200 {
		t.Errorf("of 2000 keys that weren't handed in %d are told", told)
	}
}
