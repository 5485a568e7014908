package varint

import (
	"encoding/binary"
	"math"
	"slices"
	"strings"
	"testing"

	"oxbow/api"
)

// Ways of layer 1: a number's bytes are put into an array, numbers come in through a variadic function.
var (
	_ func(int64) ([10]byte, int) = pieces
	_ func(...int64) string       = PutAll
)

// pairs are numbers with their bytes: those that the document names, and both sides of each border of length.
var pairs = []struct {
	n     int64
	bytes string
}{
	{0, "\x00"},
	{-1, "\x01"},
	{1, "\x02"},
	{-2, "\x03"},
	{63, "\x7e"},
	{-64, "\x7f"},
	{64, "\x80\x01"},
	{-65, "\x81\x01"},
	{8191, "\xfe\x7f"},
	{-8192, "\xff\x7f"},
	{8192, "\x80\x80\x01"},
	{-8193, "\x81\x80\x01"},
	{1<<62 - 1, "\xfe\xff\xff\xff\xff\xff\xff\xff\x7f"},
	{-1 << 62, "\xff\xff\xff\xff\xff\xff\xff\xff\x7f"},
	{1 << 62, "\x80\x80\x80\x80\x80\x80\x80\x80\x80\x01"},
	{-1<<62 - 1, "\x81\x80\x80\x80\x80\x80\x80\x80\x80\x01"},
	{math.MaxInt64, "\xfe\xff\xff\xff\xff\xff\xff\xff\xff\x01"},
	{math.MinInt64, "\xff\xff\xff\xff\xff\xff\xff\xff\xff\x01"},
}

// numbers: all powers of two with their neighbours on both sides of 0, and a few thousand of any size.
func numbers() []int64 {
	var l []int64
	for shift := range 64 {
		for d := int64(-2); d <= 2; d++ {
			n := int64(1)<<shift + d
			l = append(l, n, -n)
		}
	}
	u := uint64(1)
	for i := range 4096 {
		u = u*6364136223846793005 + 1442695040888963407
		l = append(l, int64(u)>>(i%64))
	}
	return l
}

func TestPut(t *testing.T) {
	for _, p := range pairs {
		if s := Put(p.n); s != p.bytes {
			t.Errorf("P1.1: Put(%d) is %x, not %x", p.n, s, p.bytes)
		}
	}
	for _, n := range numbers() {
		if s, want := Put(n), string(binary.AppendVarint(nil, n)); s != want {
			t.Errorf("P1.1: Put(%d) is %x, not %x", n, s, want)
		}
	}
}

func TestPutText(t *testing.T) {
	texts := map[string]string{
		"":                        "\x00",
		"a":                       "\x02a",
		"\x00\xff\x80":            "\x06\x00\xff\x80",
		strings.Repeat("b", 63):   "\x7e" + strings.Repeat("b", 63),
		strings.Repeat("c", 64):   "\x80\x01" + strings.Repeat("c", 64),
		strings.Repeat("d", 1e6):  "\x80\x89\x7a" + strings.Repeat("d", 1e6), // a longer one than GetText takes
		strings.Repeat("ä", 4096): "\x80\x80\x01" + strings.Repeat("ä", 4096),
	}
	for s, want := range texts {
		if got := PutText(s); got != want {
			t.Errorf("P1.1: PutText of %d bytes begins %x, and has %d bytes", len(s), got[:min(4, len(got))], len(got))
		}
	}
}

func TestPutAll(t *testing.T) {
	if s := PutAll(); s != "" {
		t.Errorf("P1.1: PutAll() is %x", s)
	}
	if s := PutAll(nil...); s != "" {
		t.Errorf("P1.1: PutAll of nil is %x", s)
	}
	var l []int64
	want := ""
	for _, p := range pairs {
		l = append(l, p.n)
		want += p.bytes
	}
	given := slices.Clone(l)
	if s := PutAll(l...); s != want {
		t.Errorf("P1.1: PutAll is %x, not %x", s, want)
	}
	if !slices.Equal(l, given) {
		t.Errorf("PutAll changed what was handed in: %v", l)
	}
}

func TestGet(t *testing.T) {
	for _, p := range pairs {
		for _, ahead := range []string{"", "\x00", "\x80", "\xff\xff"} {
			for _, behind := range []string{"", "\x00", "\x80", "\xff\xff"} {
				n, next, e := Get(ahead+p.bytes+behind, len(ahead))
				if n != p.n || next != len(ahead+p.bytes) || e != api.OK {
					t.Errorf("P1.2: Get(%x+%x+%x) is %d, %d, %d", ahead, p.bytes, behind, n, next, e)
				}
			}
		}
	}
	for _, n := range numbers() {
		s := Put(n)
		if m, next, e := Get(s, 0); m != n || next != len(s) || e != api.OK {
			t.Errorf("P1.2: Get of %d is %d, %d, %d", n, m, next, e)
		}
	}
}

func TestGetPlace(t *testing.T) {
	for _, s := range []string{"", "\x02", "\x80\x01", "\x80\x00"} {
		for _, at := range []int{-1, -2, math.MinInt, len(s) + 1, len(s) + 2, math.MaxInt} {
			wantError(t, "P1.2", s, at, api.ErrArg)
			wantTextError(t, "P1.3", s, at, api.ErrArg)
		}
		wantError(t, "P1.2", s, len(s), api.ErrShort)
		wantTextError(t, "P1.3", s, len(s), api.ErrShort)
	}
}

// full is so many bytes with their highest bit.
func full(n int) string { return strings.Repeat("\xff", n) }

// open is so many bytes with their highest bit alone.
func open(n int) string { return strings.Repeat("\x80", n) }

func TestGetFaults(t *testing.T) {
	for n := range 10 {
		wantError(t, "P1.2", full(n), 0, api.ErrShort)
		wantError(t, "P1.2", open(n), 0, api.ErrShort)
		wantError(t, "P1.2", "\x02\x02"+full(n), 2, api.ErrShort)
	}
	for n := 10; n < 14; n++ {
		wantError(t, "P1.2", full(n), 0, api.ErrForm)
		wantError(t, "P1.2", open(n), 0, api.ErrForm)
		wantError(t, "P1.2", open(n)+"\x01", 0, api.ErrForm)
	}
	for last := 2; last < 256; last++ {
		wantError(t, "P1.2", full(9)+string([]byte{byte(last)}), 0, api.ErrForm)
		wantError(t, "P1.2", open(9)+string([]byte{byte(last)})+"\x01", 0, api.ErrForm)
	}
	for n := 1; n < 10; n++ {
		wantError(t, "P1.2", open(n)+"\x00", 0, api.ErrForm)
		wantError(t, "P1.2", full(n)+"\x00", 0, api.ErrForm)
		wantError(t, "P1.2", full(n)+"\x00\x01", 0, api.ErrForm)
	}
}

// TestGetEverything: texts of up to eleven bytes, of bytes with and without their highest bit in all orders at both ends; whatever stands there is either what Put makes of a number, or a fault.
func TestGetEverything(t *testing.T) {
	var look func(s string)
	look = func(s string) {
		checkGet(t, s)
		if len(s) == 11 {
			return
		}
		next := "\x80\xff\x00\x01\x02\x7f"
		if len(s) > 2 && len(s) < 8 {
			next = "\x80"
		}
		for i := range len(next) {
			look(s + next[i:i+1])
		}
	}
	look("")
}

// checkGet holds Get against the document's words, said once more.
func checkGet(t *testing.T, s string) {
	t.Helper()
	last := 0
	for last < min(10, len(s)) && s[last] >= 0x80 {
		last++
	}
	switch {
	case last == len(s) && last < 10:
		wantError(t, "P1.2", s, 0, api.ErrShort)
	case last == 10, last == 9 && s[last] > 1, last > 0 && s[last] == 0:
		wantError(t, "P1.2", s, 0, api.ErrForm)
	default:
		n, next, e := Get(s, 0)
		if e != api.OK || next != last+1 || Put(n) != s[:next] {
			t.Errorf("P1.2: Get(%x) is %d, %d, %d", s, n, next, e)
		}
	}
}

func TestGetText(t *testing.T) {
	for _, text := range []string{"", "a", "\x00\xff\x80", strings.Repeat("b", 63), strings.Repeat("c", 64), strings.Repeat("d", api.MaxBody)} {
		for _, ahead := range []string{"", "\x80", "\x02x"} {
			for _, behind := range []string{"", "\x00", "\xff"} {
				s := ahead + PutText(text) + behind
				got, next, e := GetText(s, len(ahead))
				if got != text || next != len(s)-len(behind) || e != api.OK {
					t.Errorf("P1.3: GetText of %d bytes is of %d, %d, %d", len(text), len(got), next, e)
				}
			}
		}
	}
}

func TestGetTextFaults(t *testing.T) {
	faults := []struct {
		s    string
		want api.Errno
	}{
		{"", api.ErrShort},
		{"\x80", api.ErrShort},
		{full(9), api.ErrShort},
		{full(10), api.ErrForm},
		{"\x80\x00", api.ErrForm},
		{full(9) + "\x02", api.ErrForm},
		{Put(-1), api.ErrForm},
		{Put(-1) + "abc", api.ErrForm},
		{Put(-api.MaxBody - 1), api.ErrForm},
		{Put(math.MinInt64), api.ErrForm},
		{Put(api.MaxBody + 1), api.ErrLong},
		{PutText(strings.Repeat("a", api.MaxBody+1)), api.ErrLong},
		{Put(1 << 32), api.ErrLong},
		{Put(1<<32 + 1), api.ErrLong},
		{Put(math.MaxInt64), api.ErrLong},
		{Put(1), api.ErrShort},
		{Put(3) + "ab", api.ErrShort},
		{Put(api.MaxBody), api.ErrShort},
		{Put(api.MaxBody) + strings.Repeat("a", api.MaxBody-1), api.ErrShort},
	}
	for _, f := range faults {
		wantTextError(t, "P1.3", f.s, 0, f.want)
		wantTextError(t, "P1.3", "\x02x"+f.s, 2, f.want)
	}
}

func TestGetAll(t *testing.T) {
	if l, e := GetAll(""); len(l) != 0 || e != api.OK {
		t.Errorf("P1.4: GetAll of no bytes is %v, %d", l, e)
	}
	want := numbers()
	s := PutAll(want...)
	l, e := GetAll(s)
	if !slices.Equal(l, want) || e != api.OK {
		t.Errorf("P1.4: GetAll of %d numbers is %d, %d", len(want), len(l), e)
	}
	l[0]++
	if again, _ := GetAll(s); !slices.Equal(again, want) {
		t.Errorf("P1.4: an answer hangs on what became of an earlier one")
	}
}

func TestGetAllFaults(t *testing.T) {
	faults := []struct {
		s    string
		want api.Errno
	}{
		{"\x80", api.ErrShort},
		{"\x80\x00", api.ErrForm},
		{full(10), api.ErrForm},
		{PutAll(1, 2, 3) + "\x80", api.ErrShort},
		{PutAll(1, 2, 3) + "\x80\x00" + PutAll(4), api.ErrForm},
		{"\x02\x80\x00\x80", api.ErrForm},
		{PutAll(math.MaxInt64) + full(9), api.ErrShort},
		{PutAll(math.MaxInt64) + full(9) + "\x02", api.ErrForm},
	}
	for _, f := range faults {
		if l, e := GetAll(f.s); len(l) != 0 || e != f.want {
			t.Errorf("P1.4: GetAll(%x) is %v, %d, not %d", f.s, l, e, f.want)
		}
	}
}

func wantError(t *testing.T, promise, s string, at int, want api.Errno) {
	t.Helper()
	if n, next, e := Get(s, at); n != 0 || next != 0 || e != want {
		t.Errorf("%s: Get(%x, %d) is %d, %d, %d, not %d", promise, s, at, n, next, e, want)
	}
}

func wantTextError(t *testing.T, promise, s string, at int, want api.Errno) {
	t.Helper()
	if text, next, e := GetText(s, at); text != "" || next != 0 || e != want {
		t.Errorf("%s: GetText(%.12x, %d) is of %d bytes, %d, %d, not %d", promise, s, at, len(text), next, e, want)
	}
}
