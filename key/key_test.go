package key

import (
	"math"
	"reflect"
	"slices"
	"strings"
	"testing"

	"oxbow/api"
)

// TestWays: ways of layer 2: parts come in through a variadic function.
func TestWays(t *testing.T) {
	if !reflect.TypeOf(Make).IsVariadic() {
		t.Error("Make isn't variadic")
	}
	one, _ := Make(Num(1))
	two, _ := Make(Text("a"))
	if both, e := Make(Num(1), Text("a")); both != one+two || e != api.OK {
		t.Errorf("Make of two parts is %x, %d", both, e)
	}
}

// keys are lists of parts with their keys; the lists stand in order.
var keys = []struct {
	parts []Part
	key   string
}{
	{nil, ""},
	{[]Part{Num(math.MinInt64)}, "\x01\x00\x00\x00\x00\x00\x00\x00\x00"},
	{[]Part{Num(math.MinInt64), Num(0)}, "\x01\x00\x00\x00\x00\x00\x00\x00\x00\x01\x80\x00\x00\x00\x00\x00\x00\x00"},
	{[]Part{Num(math.MinInt64 + 1)}, "\x01\x00\x00\x00\x00\x00\x00\x00\x01"},
	{[]Part{Num(-256)}, "\x01\x7f\xff\xff\xff\xff\xff\xff\x00"},
	{[]Part{Num(-1)}, "\x01\x7f\xff\xff\xff\xff\xff\xff\xff"},
	{[]Part{Num(0)}, "\x01\x80\x00\x00\x00\x00\x00\x00\x00"},
	{[]Part{Num(1)}, "\x01\x80\x00\x00\x00\x00\x00\x00\x01"},
	{[]Part{Num(1), Num(2)}, "\x01\x80\x00\x00\x00\x00\x00\x00\x01\x01\x80\x00\x00\x00\x00\x00\x00\x02"},
	{[]Part{Num(1), Text("a")}, "\x01\x80\x00\x00\x00\x00\x00\x00\x01\x02a\x00\x01"},
	{[]Part{Num(2)}, "\x01\x80\x00\x00\x00\x00\x00\x00\x02"},
	{[]Part{Num(255)}, "\x01\x80\x00\x00\x00\x00\x00\x00\xff"},
	{[]Part{Num(256)}, "\x01\x80\x00\x00\x00\x00\x00\x01\x00"},
	{[]Part{Num(0x0102030405060708)}, "\x01\x81\x02\x03\x04\x05\x06\x07\x08"},
	{[]Part{Num(math.MaxInt64)}, "\x01\xff\xff\xff\xff\xff\xff\xff\xff"},
	{[]Part{Text("")}, "\x02\x00\x01"},
	{[]Part{Text(""), Num(-1)}, "\x02\x00\x01\x01\x7f\xff\xff\xff\xff\xff\xff\xff"},
	{[]Part{Text(""), Text("")}, "\x02\x00\x01\x02\x00\x01"},
	{[]Part{Text(""), Text("z")}, "\x02\x00\x01\x02z\x00\x01"},
	{[]Part{Text("\x00")}, "\x02\x00\xff\x00\x01"},
	{[]Part{Text("\x00\x00")}, "\x02\x00\xff\x00\xff\x00\x01"},
	{[]Part{Text("\x00\x01")}, "\x02\x00\xff\x01\x00\x01"},
	{[]Part{Text("\x00\xff")}, "\x02\x00\xff\xff\x00\x01"},
	{[]Part{Text("\x01")}, "\x02\x01\x00\x01"},
	{[]Part{Text("\x02")}, "\x02\x02\x00\x01"},
	{[]Part{Text("a")}, "\x02a\x00\x01"},
	{[]Part{Text("a"), Num(math.MaxInt64)}, "\x02a\x00\x01\x01\xff\xff\xff\xff\xff\xff\xff\xff"},
	{[]Part{Text("a"), Text("\xff")}, "\x02a\x00\x01\x02\xff\x00\x01"},
	{[]Part{Text("a\x00")}, "\x02a\x00\xff\x00\x01"},
	{[]Part{Text("a\x00b")}, "\x02a\x00\xffb\x00\x01"},
	{[]Part{Text("ab")}, "\x02ab\x00\x01"},
	{[]Part{Text("b")}, "\x02b\x00\x01"},
	{[]Part{Text("ä€")}, "\x02\xc3\xa4\xe2\x82\xac\x00\x01"},
	{[]Part{Text("\xff")}, "\x02\xff\x00\x01"},
	{[]Part{Text("\xff\x00\x01")}, "\x02\xff\x00\xff\x01\x00\x01"},
	{[]Part{Text("\xff\xff")}, "\x02\xff\xff\x00\x01"},
}

// many: the part, so many times.
func many(n int, p Part) []Part { return slices.Repeat([]Part{p}, n) }

// long: a text of so many bytes that no text may be longer.
func long(piece string) string { return strings.Repeat(piece, api.MaxText/len(piece)) }

func TestParts(t *testing.T) {
	for _, n := range []int64{math.MinInt64, -1, 0, 1, math.MaxInt64} {
		if p := Num(n); p != (Part{IsText: false, N: n, Text: ""}) {
			t.Errorf("P2.1: Num(%d) is %#v", n, p)
		}
	}
	for _, s := range []string{"", "a", "\x00\xff", long("a") + "a"} {
		if p := Text(s); p != (Part{IsText: true, N: 0, Text: s}) {
			t.Errorf("P2.1: Text of %d bytes is %#v", len(s), p)
		}
	}
}

func TestMake(t *testing.T) {
	for _, k := range keys {
		given := slices.Clone(k.parts)
		if s, e := Make(k.parts...); s != k.key || e != api.OK {
			t.Errorf("P2.1: Make(%#v) is %x, %d, not %x", k.parts, s, e, k.key)
		}
		if !slices.Equal(k.parts, given) {
			t.Errorf("Make changed what was handed in: %#v", k.parts)
		}
	}
	if s, e := Make([]Part{}...); s != "" || e != api.OK {
		t.Errorf("P2.1: Make of an empty list is %x, %d", s, e)
	}
	three := []Part{Num(1), Text("a"), Num(2)}
	want, _ := Make(Num(1), Text("a"))
	if s, e := Make(three[:2]...); s != want || e != api.OK {
		t.Errorf("P2.1: Make reads behind a list's length: %x, %d", s, e)
	}
}

// TestMakeOthers: what doesn't count in a part is seen in no key.
func TestMakeOthers(t *testing.T) {
	for _, s := range []string{"", "a", "\x00", long("a") + "a"} {
		got, e := Make(Part{N: 7, Text: s})
		if want, _ := Make(Num(7)); got != want || e != api.OK {
			t.Errorf("P2.1: the key of a number with a text of %d bytes is %x, %d", len(s), got, e)
		}
	}
	for _, n := range []int64{math.MinInt64, -1, 1, math.MaxInt64} {
		got, e := Make(Part{IsText: true, N: n, Text: "a"})
		if want, _ := Make(Text("a")); got != want || e != api.OK {
			t.Errorf("P2.1: the key of a text with the number %d is %x, %d", n, got, e)
		}
	}
}

// greatest are lists of which nothing may be more.
var greatest = [][]Part{
	many(api.MaxParts, Num(-5)),
	many(api.MaxParts, Text("")),
	many(api.MaxParts, Text("\x00")),
	many(api.MaxParts, Text(long("a"))),
	many(api.MaxParts, Text(long("\x00"))),
	{Text(long("\xff\x00"))},
	{Text(long("\x00\x01")), Num(1)},
}

func TestGreatest(t *testing.T) {
	for i, l := range greatest {
		want := ""
		for _, p := range l {
			s, _ := Make(p)
			want += s
		}
		s, e := Make(l...)
		if s != want || e != api.OK {
			t.Errorf("P2.1: Make of the greatest list %d is of %d bytes, not %d, and %d", i, len(s), len(want), e)
		}
		if got, e := Parse(s); !slices.Equal(got, l) || e != api.OK {
			t.Errorf("P2.2: Parse of the greatest list %d is of %d parts, and %d", i, len(got), e)
		}
	}
}

func TestMakeFaults(t *testing.T) {
	faults := map[string][]Part{
		"a number too many":         many(api.MaxParts+1, Num(1)),
		"a text too many":           many(api.MaxParts+1, Text("")),
		"far too many":              many(1000, Num(1)),
		"a byte too many":           {Text(long("a") + "a")},
		"a 00 too many":             {Text(long("\x00") + "\x00")},
		"far too long":              {Text(strings.Repeat("a", 1<<20))},
		"a byte too many, further":  {Num(1), Text("a"), Text("a" + long("b"))},
		"a byte too many, the last": append(many(api.MaxParts-1, Num(1)), Text("a"+long("b"))),
	}
	for name, l := range faults {
		if s, e := Make(l...); s != "" || e != api.ErrLong {
			t.Errorf("P2.1: %s: Make is of %d bytes, and %d", name, len(s), e)
		}
	}
}

func TestParse(t *testing.T) {
	for _, k := range keys {
		if l, e := Parse(k.key); !slices.Equal(l, k.parts) || e != api.OK {
			t.Errorf("P2.2: Parse(%x) is %#v, %d, not %#v", k.key, l, e, k.parts)
		}
	}
	s := keys[len(keys)-1].key
	first, _ := Parse(s)
	first[0] = Num(1)
	if again, _ := Parse(s); !slices.Equal(again, keys[len(keys)-1].parts) {
		t.Errorf("P2.2: an answer hangs on what became of an earlier one: %#v", again)
	}
}

// TestParseCut: a key that is cut off behind a part is a key; cut off elsewhere it is short.
func TestParseCut(t *testing.T) {
	parts := []Part{Num(-1), Text("a\x00b"), Text(""), Num(math.MaxInt64), Text("\x00")}
	whole := map[int]int{0: 0}
	s := ""
	for i, p := range parts {
		piece, _ := Make(p)
		s += piece
		whole[len(s)] = i + 1
	}
	for cut := range len(s) + 1 {
		count, ok := whole[cut]
		if !ok {
			wantError(t, s[:cut], api.ErrShort)
		} else if l, e := Parse(s[:cut]); !slices.Equal(l, parts[:count]) || e != api.OK {
			t.Errorf("P2.2: Parse(%x) is %#v, %d", s[:cut], l, e)
		}
	}
}

func TestParseForm(t *testing.T) {
	for _, ahead := range []string{"", "\x02\x00\x01", "\x01\x80\x00\x00\x00\x00\x00\x00\x01", "\x02a\x00\xff\x00\x01"} {
		for b := range 256 {
			c := string([]byte{byte(b)})
			if b != number && b != text {
				wantError(t, ahead+c, api.ErrForm)
				wantError(t, ahead+c+"\x02\x00\x01", api.ErrForm)
			}
			if b != ownZero && b != textEnds {
				wantError(t, ahead+"\x02\x00"+c, api.ErrForm)
				wantError(t, ahead+"\x02a\x00"+c+"\x00\x01", api.ErrForm)
				wantError(t, ahead+"\x02\x00\xff\x00"+c+"\x00\x01", api.ErrForm)
			}
		}
	}
}

// TestParseManyParts: of a part too many the first byte is at fault, whatever it is and whatever follows.
func TestParseManyParts(t *testing.T) {
	for _, p := range []Part{Num(1), Text(""), Text("\x00")} {
		s, _ := Make(many(api.MaxParts, p)...)
		for b := range 256 {
			c := string([]byte{byte(b)})
			wantError(t, s+c, api.ErrLong)
			wantError(t, s+c+"\x00\x01", api.ErrLong)
			wantError(t, s+c+"\x00\x02", api.ErrLong)
		}
		last, _ := Make(p)
		wantError(t, s+last, api.ErrLong)
		ahead := s[:len(s)-len(last)]
		wantError(t, ahead+"\x03", api.ErrForm)
		wantError(t, ahead+"\x01\x80", api.ErrShort)
		wantError(t, ahead+"\x02\x00\x02\x03", api.ErrForm)
	}
}

// TestParseLongText: of a text too long the first byte too many is at fault; a 00 behind the greatest text is one only with its FF.
func TestParseLongText(t *testing.T) {
	for _, body := range []string{long("a"), long("\x01"), long("\xff"), strings.Repeat("\x00\xff", api.MaxText), strings.Repeat("a\x00\xff", api.MaxText/2)} {
		for _, ahead := range []string{"", "\x02\x00\x01", "\x02" + body + "\x00\x01"} {
			s := ahead + "\x02" + body
			if l, e := Parse(s + "\x00\x01"); len(l) == 0 || len(l[len(l)-1].Text) != api.MaxText || e != api.OK {
				t.Errorf("P2.2: Parse of the greatest text is of %d parts, and %d", len(l), e)
			}
			wantError(t, s, api.ErrShort)
			wantError(t, s+"\x00", api.ErrShort)
			wantError(t, s+"\x00\x00", api.ErrForm)
			wantError(t, s+"\x00\x02\x00\xff", api.ErrForm)
			wantError(t, s+"\x00\x01\x03", api.ErrForm)
			wantError(t, s+"\x00\xff", api.ErrLong)
			wantError(t, s+"\x00\xff\x00\x02", api.ErrLong)
			for _, behind := range []string{"", "\x00", "\x00\x01", "\x00\x02", "b", strings.Repeat("b", 1<<20)} {
				wantError(t, s+"a"+behind, api.ErrLong)
				wantError(t, s+"\x01"+behind, api.ErrLong)
				wantError(t, s+"\xff"+behind, api.ErrLong)
			}
		}
		short := "\x02" + body[:len(body)-2]
		wantError(t, short+"\x00\x02", api.ErrForm)
		wantError(t, short, api.ErrShort)
	}
}

// TestParseEverything: all texts of bytes that say something, up to six behind each of some beginnings, held against the document's words, said once more.
func TestParseEverything(t *testing.T) {
	var look func(s string, more int)
	look = func(s string, more int) {
		checkParse(t, s)
		if more == 0 {
			return
		}
		for _, next := range []string{"\x00", "\x01", "\x02", "a", "\xff"} {
			look(s+next, more-1)
		}
	}
	for _, ahead := range []string{"", "\x02a", "\x01\x80\x00\x00\x00", "\x01\x80\x00\x00\x00\x00\x00\x00\x01"} {
		look(ahead, 6)
	}
}

// checkParse holds Parse against what the bytes are, looked at one by one.
func checkParse(t *testing.T, s string) {
	t.Helper()
	const ahead, inText, behindZero = -1, -2, -3 // else how many bytes of a number are missing
	state, want := ahead, api.OK
	for i := 0; i < len(s) && want == api.OK; i++ {
		switch {
		case state > 1:
			state--
		case state == 1, state == behindZero && s[i] == 1:
			state = ahead
		case state == ahead && s[i] == 1:
			state = 8
		case state == ahead && s[i] == 2, state == inText && s[i] != 0, state == behindZero && s[i] == 0xFF:
			state = inText
		case state == inText:
			state = behindZero
		default:
			want = api.ErrForm
		}
	}
	if want == api.OK && state != ahead {
		want = api.ErrShort
	}
	if want != api.OK {
		wantError(t, s, want)
		return
	}
	l, e := Parse(s)
	if again, _ := Make(l...); e != api.OK || again != s {
		t.Errorf("P2.2: Parse(%x) is %#v, %d", s, l, e)
	}
	for _, p := range l {
		if p != Num(p.N) && p != Text(p.Text) {
			t.Errorf("P2.2: Parse(%x) gives a part that neither Num nor Text makes: %#v", s, p)
		}
	}
}

func TestCompare(t *testing.T) {
	for i, a := range keys {
		for j, b := range keys {
			want := 0
			if i < j {
				want = -1
			} else if i > j {
				want = 1
			}
			if c := Compare(a.parts, b.parts); c != want {
				t.Errorf("P2.3: Compare(%#v, %#v) is %d, not %d", a.parts, b.parts, c, want)
			}
			if c := strings.Compare(a.key, b.key); c != want {
				t.Errorf("P2.3: the keys of %#v and %#v stand in another order: %d, not %d", a.parts, b.parts, c, want)
			}
		}
	}
}

// TestCompareOthers: lists of which no key can be made, empty ones, and what doesn't count.
func TestCompareOthers(t *testing.T) {
	ordered := [][2][]Part{
		{many(api.MaxParts, Num(1)), many(api.MaxParts+1, Num(1))},
		{many(20, Num(1)), append(many(20, Num(1)), Num(math.MinInt64))},
		{append(many(20, Text("a")), Num(1)), append(many(20, Text("a")), Num(2))},
		{{Text(long("a"))}, {Text(long("a") + "a")}},
		{{Text(strings.Repeat("a", 1<<20))}, {Text(strings.Repeat("a", 1<<20-1) + "b")}},
		{{}, {Num(math.MinInt64)}},
		{nil, {Text("")}},
		{{{N: 1, Text: "b"}}, {{N: 2, Text: "a"}}},
		{{{N: 1, Text: "b"}}, {{N: 1, Text: "a"}, Num(0)}},
		{{{IsText: true, N: 2, Text: "a"}}, {{IsText: true, N: 1, Text: "b"}}},
		{{{N: 9, Text: "b"}}, {{IsText: true, N: 1, Text: "a"}}},
	}
	for i, o := range ordered {
		if c, d := Compare(o[0], o[1]), Compare(o[1], o[0]); c != -1 || d != 1 {
			t.Errorf("P2.3: Compare of the ordered lists %d is %d, and %d the other way", i, c, d)
		}
	}
	alike := [][2][]Part{
		{nil, {}},
		{{{N: 1, Text: "a"}}, {{N: 1, Text: "b"}}},
		{{{IsText: true, N: 1, Text: "a"}}, {{IsText: true, N: 2, Text: "a"}}},
		{many(1000, Num(1)), many(1000, Num(1))},
		{many(3, Num(1))[:2], many(2, Num(1))},
	}
	for i, o := range alike {
		if c, d := Compare(o[0], o[1]), Compare(o[1], o[0]); c != 0 || d != 0 {
			t.Errorf("P2.3: Compare of the lists alike %d is %d, and %d the other way", i, c, d)
		}
	}
}

func TestAbove(t *testing.T) {
	for prefix, want := range map[string]string{
		"a":                               "b",
		"a\xff":                           "b",
		"a\xff\xff\xff":                   "b",
		"\x00":                            "\x01",
		"\xfe":                            "\xff",
		"\xfe\xff":                        "\xff",
		"\xff\x00":                        "\xff\x01",
		"\xff\xfe\xff":                    "\xff\xff",
		"ab\x7f":                          "ab\x80",
		"ab\x00\xff":                      "ab\x01",
		"\x02e\x00\x01":                   "\x02e\x00\x02",
		strings.Repeat("a", 1e6):          strings.Repeat("a", 1e6-1) + "b",
		"a" + strings.Repeat("\xff", 1e6): "b",
	} {
		if s, ok := Above(prefix); s != want || !ok {
			t.Errorf("P2.4: Above(%.20x) is %.20x, %t", prefix, s, ok)
		}
	}
	for _, prefix := range []string{"", "\xff", "\xff\xff", strings.Repeat("\xff", 1e6)} {
		if s, ok := Above(prefix); s != "" || ok {
			t.Errorf("P2.4: Above(%.20x) is %.20x, %t", prefix, s, ok)
		}
	}
}

// TestAboveEverything: of all texts of up to four bytes of some, those that begin with a prefix are below its Above, and none below that is above all of them.
func TestAboveEverything(t *testing.T) {
	texts := []string{""}
	for at := 0; len(texts[at]) < 4; at++ {
		for _, next := range []string{"\x00", "\x01", "\xfe", "\xff"} {
			texts = append(texts, texts[at]+next)
		}
	}
	for _, prefix := range texts {
		above, ok := Above(prefix)
		if ok != (strings.Count(prefix, "\xff") < len(prefix)) {
			t.Errorf("P2.4: Above(%x) is %x, %t", prefix, above, ok)
		}
		for _, s := range texts {
			if ok && s >= above && strings.HasPrefix(s, prefix) {
				t.Errorf("P2.4: Above(%x) is %x, not above %x", prefix, above, s)
			}
			if ok && s < above && s > prefix+"\xff\xff\xff\xff\xff" {
				t.Errorf("P2.4: Above(%x) is %x, where %x would do", prefix, above, s)
			}
		}
	}
}

func wantError(t *testing.T, s string, want api.Errno) {
	t.Helper()
	if l, e := Parse(s); len(l) != 0 || e != want {
		t.Errorf("P2.2: Parse(%.40x), of %d bytes, is of %d parts, and %d, not %d", s, len(s), len(l), e, want)
	}
}
