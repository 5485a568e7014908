package wal

import (
	"fmt"
	"math"
	"math/rand"
	"strings"
	"testing"
	"unsafe"
)

// kinds are names' kinds; noKinds aren't.
var (
	kinds   = []string{"log", "manifest", "table", "a", "z", "abcdefghijklmnopqrstuvwxyz", "lo", "logs", "gol", strings.Repeat("k", 55), strings.Repeat("k", 56), strings.Repeat("long", 1e4)}
	noKinds = []string{"", "Log", "loG", "log-", "-log", "l-g", "-", "--", "log ", " log", "lo g", "lo1", "1", "0log", "log\x00", "\x00", "lög", "ä", "lo\xff", "\xff", "lo`", "lo{", "log\n", "log-00000007", "ｌｏｇ"}
)

var (
	numbers   = []int64{0, 1, 7, 9, 10, 11, 99, 100, 999, 1000, 9999, 10000, 12345, 99999, 100000, 999999, 1000000, 1234567, 9999999, 10000000, 12345678, 87654321, 99999998, 99999999}
	noNumbers = []int64{-1, -2, -7, -99999999, -100000000, 100000000, 100000001, 123456789, 999999999, 1 << 31, 1 << 32, 1<<32 + 7, -1 << 32, 1 << 53, math.MaxInt64, math.MaxInt64 - 1, math.MinInt64, math.MinInt64 + 1}
)

// nameOf: the name of a good kind and a good number.
func nameOf(kind string, n int64) string { return fmt.Sprintf("%s-%08d", kind, n) }

func wantFile(t *testing.T, kind string, n int64, want string) {
	t.Helper()
	if s := File(kind, n); s != want {
		t.Errorf("P8.1: File(%.80q, %d) is %.80q, not %.80q", kind, n, s, want)
	}
}

func wantNumber(t *testing.T, kind, name string, want int64, there bool) {
	t.Helper()
	if n, ok := Number(kind, name); n != want || ok != there {
		t.Errorf("P8.1: Number(%.80q, %.80q) is %d, %t, not %d, %t", kind, name, n, ok, want, there)
	}
}

func TestNameExample(t *testing.T) {
	if s := Name(7); s != "log-00000007" {
		t.Errorf("example: Name(7) is %q", s)
	}
	wantNumber(t, "log", "log-00000007", 7, true)
}

// TestFile: each kind with each number, and what is no name of these.
func TestFile(t *testing.T) {
	for _, kind := range kinds {
		for _, n := range numbers {
			wantFile(t, kind, n, nameOf(kind, n))
			wantNumber(t, kind, nameOf(kind, n), n, true)
		}
		for _, n := range noNumbers {
			wantFile(t, kind, n, "")
			wantNumber(t, kind, nameOf(kind, n), 0, false)
		}
	}
	for _, kind := range noKinds {
		for _, n := range append(numbers, noNumbers...) {
			wantFile(t, kind, n, "")
			wantNumber(t, kind, nameOf(kind, n), 0, false)
		}
	}
}

// TestLetters: of all bytes the letters a to z make a kind, alone and at each place.
func TestLetters(t *testing.T) {
	for b := range 256 {
		s := string([]byte{byte(b)})
		letter := strings.Contains("abcdefghijklmnopqrstuvwxyz", s)
		for _, kind := range []string{s, s + "og", "l" + s + "g", "lo" + s} {
			want := ""
			if letter {
				want = kind + "-00000307"
			}
			wantFile(t, kind, 307, want)
			wantNumber(t, kind, kind+"-00000307", int64(len(want)/len(kind+"-00000307")*307), letter)
		}
	}
}

func TestName(t *testing.T) {
	for _, n := range numbers {
		if s := Name(n); s != nameOf("log", n) {
			t.Errorf("P8.1: Name(%d) is %q", n, s)
		}
	}
	for _, n := range noNumbers {
		if s := Name(n); s != "" {
			t.Errorf("P8.1: Name(%d), which is none, is %q", n, s)
		}
	}
}

// TestNames: by chance.
func TestNames(t *testing.T) {
	r := rand.New(rand.NewSource(8))
	for range 20000 {
		n := r.Int63n(1e8)
		wantFile(t, "table", n, nameOf("table", n))
		wantNumber(t, "table", nameOf("table", n), n, true)
		wantNumber(t, "tables", nameOf("table", n), 0, false)
		wantNumber(t, "able", nameOf("table", n), 0, false)
	}
}

// TestNumberOfBytes: a name with any one byte instead of one of its own is a name only where that is a digit of its number.
func TestNumberOfBytes(t *testing.T) {
	name := "log-00052907"
	for at := range len(name) {
		for b := range 256 {
			s := name[:at] + string([]byte{byte(b)}) + name[at+1:]
			want, there := int64(0), s == name || at >= len("log-") && b >= '0' && b <= '9'
			if there {
				fmt.Sscanf(s, "log-%d", &want)
			}
			wantNumber(t, "log", s, want, there)
		}
	}
}

// TestNoNumber: texts that are no names of the kind.
func TestNoNumber(t *testing.T) {
	name := "log-00000007"
	for i := range len(name) {
		wantNumber(t, "log", name[:i], 0, false)
		wantNumber(t, "log", name[i+1:], 0, false)
		wantNumber(t, "log", name[:i]+name[i+1:], 0, false)
		for _, more := range []string{"0", "7", "-", "l", " ", "\x00", "_", "+"} {
			wantNumber(t, "log", name[:i]+more+name[i:], 0, false)
			wantNumber(t, "log", name+more, 0, false)
		}
	}
	for _, s := range []string{
		"", "-", "log", "log-", "log-7", "log-0000007", "log-000000007", "log-100000000", "log-+0000007", "log--0000007", "log--0000000", "log-+0000000", "log- 0000007", "log-0000007 ",
		"log-0000_007", "log-0x000007", "log-0000007a", "log-0000000x", "log-000007e0", "log-000007.0", "log-infinity", "log-１００", "log-\u0660\u0660\u0660\u0667", "log_00000007", "log00000007", "LOG-00000007",
		"Log-00000007", "table-00000007", "manifest-00000007", "current", "current-next", "log-00000007log-00000007", "-00000007", "00000007", "0000log-00000007", "log-99999999999999999999",
	} {
		wantNumber(t, "log", s, 0, false)
	}
	for _, kind := range append([]string{"lo", "logs", "og", "table", "log-0"}, noKinds...) {
		for _, s := range []string{"", "-", name, "-00000007", "00000007", kind, kind + "-", kind + "00000007", kind + "-0000007", kind + "-000000007", kind + "-+0000007", kind + "--0000007"} {
			wantNumber(t, kind, s, 0, false)
		}
	}
}

// TestNameIsNew: a name shares no memory with the kind, or with another name.
func TestNameIsNew(t *testing.T) {
	kind := strings.Clone("log")
	a, b := File(kind, 7), File(kind, 7)
	for _, p := range [][2]string{{a, kind}, {b, kind}, {a, b}, {a, Name(7)}} {
		if unsafe.StringData(p[0]) == unsafe.StringData(p[1]) {
			t.Errorf("rule 4: the name %q has the memory of %q", p[0], p[1])
		}
	}
}
