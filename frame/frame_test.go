package frame

import (
	"encoding/binary"
	"hash/crc32"
	"math"
	"slices"
	"strings"
	"testing"

	"oxbow/api"
)

// TestWays: ways of layer 3: a frame's head is put into an array.
func TestWays(t *testing.T) {
	var ahead func(string) [8]byte = head
	for _, f := range frames {
		h := ahead(f.body)
		if s, e := Put(f.body); string(h[:])+f.body != s || e != api.OK {
			t.Errorf("Put(%x) is %x, %d, not the head %x and the body", f.body, s, e, h)
		}
	}
}

// sums are texts with their check sums.
var sums = map[string]uint32{
	"":                 0x00000000,
	"\x00":             0xD202EF8D,
	"\xff":             0xFF000000,
	"a":                0xE8B7BE43,
	"abc":              0x352441C2,
	"123456789":        0xCBF43926,
	"\x00\x00\x00\x00": 0x2144DF1C,
	"\xff\xff\xff\xff": 0xFFFFFFFF,
	"The quick brown fox jumps over the lazy dog": 0x414FA339,
}

// frames are bodies with their frames.
var frames = []struct{ body, frame string }{
	{"", "\x00\x00\xff\xff\x00\x00\x00\x00"},
	{"a", "\x00\x01\xff\xfe\xe8\xb7\xbe\x43a"},
	{"\x00", "\x00\x01\xff\xfe\xd2\x02\xef\x8d\x00"},
	{"\xff\xff\xff\xff", "\x00\x04\xff\xfb\xff\xff\xff\xff\xff\xff\xff\xff"},
	{"123456789", "\x00\x09\xff\xf6\xcb\xf4\x39\x26123456789"},
	{"\x00\x01\xff\xfe\xe8\xb7\xbe\x43a", "\x00\x09\xff\xf6\x21\x2d\x42\x46\x00\x01\xff\xfe\xe8\xb7\xbe\x43a"},
}

// sizes are lengths of bodies: both sides of each border of a byte of the length, and the greatest.
var sizes = []int{0, 1, 2, 3, 4, 7, 8, 9, 127, 128, 254, 255, 256, 257, 511, 512, 4095, 4096, 32767, 32768, 65279, 65280, api.MaxBody - 1, api.MaxBody}

// noise: so many bytes of all kinds, others for each seed.
func noise(n int, seed uint64) string {
	b := make([]byte, n)
	u := seed
	for i := range b {
		u = u*6364136223846793005 + 1442695040888963407
		b[i] = byte(u >> 56)
	}
	return string(b)
}

// framed: the frame of a body, made apart from the program.
func framed(body string) string {
	n := uint16(len(body))
	b := binary.BigEndian.AppendUint16(nil, n)
	b = binary.BigEndian.AppendUint16(b, ^n)
	b = binary.BigEndian.AppendUint32(b, crc32.ChecksumIEEE([]byte(body)))
	return string(b) + body
}

// join: the frames of bodies, one behind the other, and the places at which they end.
func join(bodies []string) (string, []int) {
	s := ""
	var ends []int
	for _, body := range bodies {
		s += framed(body)
		ends = append(ends, len(s))
	}
	return s, ends
}

func TestSum(t *testing.T) {
	for s, want := range sums {
		if got := Sum(s); got != want {
			t.Errorf("P3.1: Sum(%x) is %08X, not %08X", s, got, want)
		}
	}
	for b := range 256 {
		for _, s := range []string{string([]byte{byte(b)}), string([]byte{byte(b), 0}), string([]byte{0xff, byte(b), 1})} {
			if got, want := Sum(s), crc32.ChecksumIEEE([]byte(s)); got != want {
				t.Errorf("P3.1: Sum(%x) is %08X, not %08X", s, got, want)
			}
		}
	}
	for i, n := range append(slices.Clone(sizes), api.MaxBody+1, api.MaxFile) {
		s := noise(n, uint64(i))
		if got, want := Sum(s), crc32.ChecksumIEEE([]byte(s)); got != want {
			t.Errorf("P3.1: Sum of %d bytes is %08X, not %08X", n, got, want)
		}
	}
}

func TestPut(t *testing.T) {
	for _, f := range frames {
		if s, e := Put(f.body); s != f.frame || e != api.OK {
			t.Errorf("P3.1: Put(%x) is %x, %d, not %x", f.body, s, e, f.frame)
		}
	}
	for i, n := range sizes {
		body := noise(n, uint64(i))
		if s, e := Put(body); s != framed(body) || e != api.OK {
			t.Errorf("P3.1: Put of %d bytes is %.20x, of %d, and %d", n, s, len(s), e)
		}
	}
	for _, n := range []int{api.MaxBody + 1, api.MaxBody + 2, 2*api.MaxBody + 1, api.MaxFile, 1 << 24} {
		if s, e := Put(strings.Repeat("a", n)); s != "" || e != api.ErrLong {
			t.Errorf("P3.1: Put of %d bytes is of %d bytes, and %d", n, len(s), e)
		}
	}
}

func TestGet(t *testing.T) {
	bodies := []string{}
	for _, f := range frames {
		bodies = append(bodies, f.body)
	}
	for i, n := range sizes {
		bodies = append(bodies, noise(n, uint64(i)))
	}
	for _, body := range bodies {
		for _, ahead := range []string{"", "\x00", "\xff\xff\xff\xff\xff", framed("b")} {
			for _, behind := range []string{"", "\x00", "\xff\xff\xff\xff\xff", framed("b")} {
				s := ahead + framed(body) + behind
				next := len(s) - len(behind)
				if got, at, e := Get(s, len(ahead)); got != body || at != next || e != api.OK {
					t.Errorf("P3.2: Get of a body of %d bytes at %d is of %d bytes, %d, %d", len(body), len(ahead), len(got), at, e)
				}
			}
		}
	}
}

func TestGetPlace(t *testing.T) {
	for _, s := range []string{"", "\x00", "\x00\x00\xff", framed(""), framed("a"), framed("a") + "\x00", strings.Repeat("\x01", 20)} {
		for _, at := range []int{-1, -2, -8, math.MinInt, math.MinInt + 8, len(s) + 1, len(s) + 2, len(s) + 8, math.MaxInt - 8, math.MaxInt} {
			wantError(t, s, at, api.ErrArg)
		}
		wantError(t, s, len(s), api.ErrNone)
	}
}

func TestGetFaults(t *testing.T) {
	good := framed("123456789")
	faults := []struct {
		s    string
		want api.Errno
	}{
		{"", api.ErrNone},
		{"\x00", api.ErrShort},
		{"\x00\x00", api.ErrShort},
		{"\x00\x00\xff", api.ErrShort},
		{"\x00\x00\x00", api.ErrShort}, // fewer than four: how they are doesn't matter yet
		{"\x00\x00\xff\xff", api.ErrShort},
		{"\x00\x00\xff\xff\x00\x00\x00", api.ErrShort},
		{"\x00\x00\xff\xff\x01\x01\x01", api.ErrShort},
		{"\x00\x00\x00\x00", api.ErrForm},
		{"\x00\x00\xff\xfe", api.ErrForm},
		{"\x00\x00\xfe\xff", api.ErrForm},
		{"\x00\x01\xfe\xff", api.ErrForm}, // turned, but the lower first
		{"\x01\x01\xff\xfe", api.ErrForm},
		{"\xff\xff\xff\xff", api.ErrForm},
		{"\x80\x00\xff\xff", api.ErrForm},
		{"\x00\x00\x00\x00\x00\x00\x00\x00", api.ErrForm},
		{"\x00\x02\xff\xfe" + good[4:], api.ErrForm},
		{"\x00\x01\xff\xfe\xe8\xb7\xbe\x43", api.ErrShort},
		{"\x00\x02\xff\xfd\xe8\xb7\xbe\x43a", api.ErrShort},
		{"\x01\x01\xfe\xfe\xe8\xb7\xbe\x43a", api.ErrShort},
		{"\xff\xff\x00\x00\xe8\xb7\xbe\x43a", api.ErrShort},
		{"\x00\x09\xff\xf6\x00\x00\x00\x0012345678", api.ErrShort}, // ahead of the check sum
		{"\x00\x00\xff\xff\x00\x00\x00\x01", api.ErrSum},
		{"\x00\x00\xff\xff\xff\xff\xff\xff", api.ErrSum},
		{"\x00\x00\xff\xff\x01\x00\x00\x00", api.ErrSum},
		{"\x00\x01\xff\xfe\x43\xbe\xb7\xe8a", api.ErrSum}, // the lowest first
		{"\x00\x01\xff\xfe\x17\x48\x41\xbca", api.ErrSum}, // not turned in the end
		{"\x00\x01\xff\xfe\xe8\xb7\xbe\x43b", api.ErrSum},
		{"\x00\x08\xff\xf7" + good[4:], api.ErrSum}, // whole, but of fewer bytes
	}
	for _, f := range faults {
		wantError(t, f.s, 0, f.want)
		wantError(t, "\x00"+f.s, 1, f.want)
		wantError(t, good+f.s, len(good), f.want)
		if f.want == api.ErrSum || f.want == api.ErrForm {
			wantError(t, f.s+good, 0, f.want)
			wantError(t, f.s+strings.Repeat("\x00", 1<<17), 0, f.want)
		}
	}
}

// TestGetEverything: frames whole, cut off, with every bit turned and from every place on, held against the document's words, said once more.
func TestGetEverything(t *testing.T) {
	s, _ := join([]string{"a", "", framed("b"), "\x00\x00\xff\xff", noise(40, 1)})
	for cut := range len(s) + 1 {
		for at := range cut + 1 {
			checkGet(t, s[:cut], at)
		}
	}
	for bit := range 8 * len(s) {
		turned := turn(s, bit)
		for at := range len(s) + 1 {
			checkGet(t, turned, at)
		}
	}
	for seed := range 4096 {
		checkGet(t, noise(seed%16, uint64(seed)), 0)
	}
}

// turn: s with one bit turned.
func turn(s string, bit int) string {
	b := []byte(s)
	b[bit/8] ^= 1 << (bit % 8)
	return string(b)
}

// checkGet holds Get against the document's words at a place of s.
func checkGet(t *testing.T, s string, at int) {
	t.Helper()
	rest := []byte(s[at:])
	switch {
	case len(rest) == 0:
		wantError(t, s, at, api.ErrNone)
		return
	case len(rest) < 4:
		wantError(t, s, at, api.ErrShort)
		return
	}
	n := binary.BigEndian.Uint16(rest)
	switch {
	case binary.BigEndian.Uint16(rest[2:]) != ^n:
		wantError(t, s, at, api.ErrForm)
		return
	case len(rest) < 8+int(n):
		wantError(t, s, at, api.ErrShort)
		return
	}
	want := string(rest[8 : 8+int(n)])
	if binary.BigEndian.Uint32(rest[4:]) != crc32.ChecksumIEEE([]byte(want)) {
		wantError(t, s, at, api.ErrSum)
		return
	}
	if body, next, e := Get(s, at); body != want || next != at+8+len(want) || e != api.OK {
		t.Errorf("P3.2: Get(%x, %d) is %x, %d, %d, not %x", s, at, body, next, e, want)
	}
}

func TestAll(t *testing.T) {
	var all []string
	for _, f := range frames {
		all = append(all, f.body)
	}
	for i, n := range sizes {
		all = append(all, noise(n, uint64(i)))
	}
	lists := [][]string{nil, {""}, {"a"}, {"", "", ""}, {"a", "", "a"}, all, slices.Repeat([]string{""}, 1<<17), slices.Repeat([]string{"ab"}, 1000)}
	for _, bodies := range lists {
		s := strings.Builder{}
		for _, body := range bodies {
			s.WriteString(framed(body))
		}
		wantAll(t, "P3.3", s.String(), bodies, s.Len(), api.ErrNone)
	}
	s, _ := join([]string{"a", "b"})
	first, _, _ := All(s)
	first[0] = "c"
	wantAll(t, "P3.3", s, []string{"a", "b"}, len(s), api.ErrNone)
}

// TestAllFaults: what stands behind a fault isn't looked at, however whole it is.
func TestAllFaults(t *testing.T) {
	faults := []struct {
		s    string
		want api.Errno
	}{
		{"\x00", api.ErrShort},
		{"\x00\x00\xff", api.ErrShort},
		{"\x00\x09\xff\xf6", api.ErrShort},
		{"\xff\xff\x00\x00\xe8\xb7\xbe\x43" + framed("a"), api.ErrShort},
		{"\x00\x00\x00\x00", api.ErrForm},
		{"\x00" + framed("a"), api.ErrForm},
		{"\x00\x01\xff\xff\xe8\xb7\xbe\x43a" + framed("a"), api.ErrForm},
		{"\x00\x01\xff\xfe\xe8\xb7\xbe\x43b" + framed("a"), api.ErrSum},
		{"\x00\x00\xff\xff\x00\x00\x00\x01" + framed("a"), api.ErrSum},
	}
	for _, bodies := range [][]string{nil, {""}, {"a"}, {"a", "", "123456789"}, {noise(api.MaxBody, 1), "b"}} {
		ahead, _ := join(bodies)
		for _, f := range faults {
			wantAll(t, "P3.3", ahead+f.s, bodies, len(ahead), f.want)
		}
	}
}

// TestAllCut: frames cut off anywhere.
func TestAllCut(t *testing.T) {
	for _, bodies := range [][]string{{"a", "", framed("b"), "", noise(300, 1), "c"}, {"a", noise(api.MaxBody, 2), "b"}} {
		s, ends := join(bodies)
		step := 1 + len(s)/1000
		for cut := len(s); cut >= 0; cut -= step {
			whole, place, want := 0, 0, api.ErrShort
			for whole < len(ends) && ends[whole] <= cut {
				place = ends[whole]
				whole++
			}
			if place == cut {
				want = api.ErrNone
			}
			wantAll(t, "P3.4", s[:cut], bodies[:whole], place, want)
		}
	}
}

// TestAllTurned: frames with one bit turned: no body is told but those of the frames ahead of it, and the place is that of the frame with the bit.
func TestAllTurned(t *testing.T) {
	bodies := []string{"a", "", framed("b"), "", noise(300, 1), "c"}
	s, ends := join(bodies)
	for bit := range 8 * len(s) {
		whole, from := 0, 0
		for ends[whole] <= bit/8 {
			from = ends[whole]
			whole++
		}
		want := api.ErrSum
		if bit/8 < from+4 {
			want = api.ErrForm
		}
		wantAll(t, "P3.4", turn(s, bit), bodies[:whole], from, want)
	}
}

// TestAllLong: the greatest body with one of its bits turned, and with one of its length.
func TestAllLong(t *testing.T) {
	bodies := []string{"a", noise(api.MaxBody, 1), "b"}
	s, ends := join(bodies)
	for bit := 8 * ends[0]; bit < 8*ends[1]; bit += 9973 {
		want := api.ErrSum
		if bit/8 < ends[0]+4 {
			want = api.ErrForm
		}
		wantAll(t, "P3.4", turn(s, bit), bodies[:1], ends[0], want)
	}
}

func wantError(t *testing.T, s string, at int, want api.Errno) {
	t.Helper()
	if body, next, e := Get(s, at); body != "" || next != 0 || e != want {
		t.Errorf("P3.2: Get(%.40x, %d), of %d bytes, is %.20x, %d, %d, not %d", s, at, len(s), body, next, e, want)
	}
}

func wantAll(t *testing.T, promise, s string, bodies []string, place int, want api.Errno) {
	t.Helper()
	l, at, e := All(s)
	if !slices.Equal(l, bodies) || at != place || e != want {
		t.Errorf("%s: All(%.40x), of %d bytes, is of %d bodies, %d, %d, not of %d, %d, %d", promise, s, len(s), len(l), at, e, len(bodies), place, want)
	}
}
