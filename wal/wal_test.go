package wal

import (
	"fmt"
	"go/ast"
	"go/parser"
	"go/token"
	"hash/crc32"
	"slices"
	"strings"
	"testing"

	"oxbow/api"
	"oxbow/disk"
)

// TestWays: ways of layer 8: calls of the disk are closures and method values, handed to a variadic function.
func TestWays(t *testing.T) {
	d := disk.New(100)
	var calls func(...func() api.Errno) api.Errno = first
	wantError(t, "first of no calls", calls(), api.OK)
	wantError(t, "first of calls that are OK", calls(d.SyncDir, func() api.Errno { return d.Create("a") }, d.SyncDir), api.OK)
	wantError(t, "first of calls", calls(d.SyncDir, func() api.Errno { return d.Create("a") }, func() api.Errno { return d.Sync("b") }, func() api.Errno { return d.Create("c") }), api.ErrThere)
	wantList(t, "first", d, "a")
	file, err := parser.ParseFile(token.NewFileSet(), "wal.go", nil, 0)
	if err != nil {
		t.Fatal(err)
	}
	closures, values := map[string]int{}, map[string]int{}
	for _, decl := range file.Decls {
		f, ok := decl.(*ast.FuncDecl)
		if !ok {
			continue
		}
		ast.Inspect(f, func(n ast.Node) bool {
			c, ok := n.(*ast.CallExpr)
			if !ok {
				return true
			}
			if name, ok := c.Fun.(*ast.Ident); !ok || name.Name != "first" {
				return true
			}
			for _, arg := range c.Args {
				switch x := arg.(type) {
				case *ast.FuncLit:
					closures[f.Name.Name]++
				case *ast.SelectorExpr:
					if x.Sel.Name == "SyncDir" {
						values[f.Name.Name]++
					}
				}
			}
			return true
		})
	}
	if want := map[string]int{"Create": 1, "Append": 2, "Remove": 1}; fmt.Sprint(closures) != fmt.Sprint(want) {
		t.Errorf("closures that are handed to first: %v, not %v", closures, want)
	}
	if want := map[string]int{"Create": 1, "Remove": 1}; fmt.Sprint(values) != fmt.Sprint(want) {
		t.Errorf("method values that are handed to first: %v, not %v", values, want)
	}
}

// framed: the frames of bodies, one behind the other, told apart from the program.
func framed(bodies ...string) string {
	var s strings.Builder
	for _, body := range bodies {
		n, sum := len(body), crc32.ChecksumIEEE([]byte(body))
		s.Write([]byte{byte(n >> 8), byte(n), byte(^n >> 8), byte(^n), byte(sum >> 24), byte(sum >> 16), byte(sum >> 8), byte(sum)})
		s.WriteString(body)
	}
	return s.String()
}

var longBody = strings.Repeat("\x00b\xff", api.MaxBody/3)

func wantOK(t *testing.T, l ...api.Errno) {
	t.Helper()
	for i, e := range l {
		if e != api.OK {
			t.Fatalf("call %d is %d", i, e)
		}
	}
}

func wantError(t *testing.T, what string, e, want api.Errno) {
	t.Helper()
	if e != want {
		t.Errorf("%s is %d, not %d", what, e, want)
	}
}

func wantList(t *testing.T, what string, d *disk.Disk, want ...string) {
	t.Helper()
	if l := d.List(); !slices.Equal(l, want) {
		t.Errorf("%s: the disk has %.40q, not %.40q", what, l, want)
	}
}

// wantBytes: what the disk has of a log.
func wantBytes(t *testing.T, what string, d *disk.Disk, n int64, want string) {
	t.Helper()
	if s, e := d.Read(nameOf("log", n)); s != want || e != api.OK {
		t.Errorf("%s: the log %d has %d bytes %.40x, and %d, not %d bytes %.40x", what, n, len(s), s, e, len(want), want)
	}
}

// wantLog: what Read tells of a log that can be read.
func wantLog(t *testing.T, what string, d *disk.Disk, n int64, cut bool, want ...string) {
	t.Helper()
	if l, c, e := Read(d, n); !slices.Equal(l, want) || c != cut || e != api.OK {
		t.Errorf("%s: Read is %d bodies %.20q, %t, %d, not %d bodies %.20q, %t", what, len(l), l, c, e, len(want), want, cut)
	}
}

// wantNoLog: Read tells an error, and nothing beside it.
func wantNoLog(t *testing.T, what string, d *disk.Disk, n int64, want api.Errno) {
	t.Helper()
	if l, c, e := Read(d, n); len(l) != 0 || c || e != want {
		t.Errorf("%s: Read is %.20q, %t, %d, not %d", what, l, c, e, want)
	}
}

// made: a disk with one log, that lasts, of these bytes.
func made(t *testing.T, n int64, s string) *disk.Disk {
	t.Helper()
	d, name := disk.New(api.MaxFile), nameOf("log", n)
	wantOK(t, d.Create(name), d.Append(name, s), d.Sync(name), d.SyncDir())
	return d
}

// off: a disk whose power is off, with the log 7, and none else.
func off(t *testing.T) *disk.Disk {
	t.Helper()
	d := made(t, 7, framed("a"))
	d.Cut(1, 0)
	wantError(t, "P4.4: SyncDir that is cut", d.SyncDir(), api.ErrPower)
	return d
}

// TestLogs: what an ordinary program does with logs.
func TestLogs(t *testing.T) {
	d := disk.New(1000)
	for _, n := range []int64{0, 7, 99999999} {
		wantError(t, "P8.2: Create", Create(d, n), api.OK)
		wantLog(t, "P8.3: behind Create", d, n, false)
	}
	wantList(t, "P8.2", d, "log-00000000", "log-00000007", "log-99999999")
	for _, body := range []string{"ab", "", "c", "ab", "\x00\xff", framed("a")} {
		wantError(t, "P8.2: Append", Append(d, 7, body), api.OK)
	}
	wantError(t, "P8.2: Append", Append(d, 0, "x"), api.OK)
	wantLog(t, "P8.3", d, 7, false, "ab", "", "c", "ab", "\x00\xff", framed("a"))
	wantLog(t, "P8.3", d, 0, false, "x")
	wantLog(t, "P8.3", d, 99999999, false)
	wantBytes(t, "P8.2", d, 7, framed("ab", "", "c", "ab", "\x00\xff", framed("a")))
	wantError(t, "P8.2: Remove", Remove(d, 7), api.OK)
	wantList(t, "P8.2", d, "log-00000000", "log-99999999")
	wantNoLog(t, "P8.3: behind Remove", d, 7, api.ErrNone)
	wantError(t, "P8.2: Create of one that was removed", Create(d, 7), api.OK)
	wantLog(t, "P8.3", d, 7, false)
	d.Crash(0)
	wantLog(t, "P8.4", d, 0, false, "x")
	wantLog(t, "P8.4", d, 7, false)
}

// TestNoName: of a number that no log has each call is ErrArg, ahead of every other error, and changes nothing.
func TestNoName(t *testing.T) {
	full := made(t, 1, framed("a"))
	full.Break(1)
	for what, d := range map[string]*disk.Disk{"a nil disk": nil, "a disk without power": off(t), "an empty disk": disk.New(0), "a full disk": full} {
		for _, n := range noNumbers {
			wantError(t, "P8.2: Create of no name on "+what, Create(d, n), api.ErrArg)
			wantError(t, "P8.2: Append to no name on "+what, Append(d, n, "a"), api.ErrArg)
			wantError(t, "P8.2: Append of too much to no name on "+what, Append(d, n, longBody+"b"), api.ErrArg)
			wantError(t, "P8.2: Remove of no name on "+what, Remove(d, n), api.ErrArg)
			wantNoLog(t, "P8.3: no name on "+what, d, n, api.ErrArg)
		}
	}
	wantList(t, "P8.2", full, "log-00000001")
	wantError(t, "P8.2: the first call that changes", full.SyncDir(), api.ErrFull)
}

// TestNoDisk: a nil disk's error, a disk's without power.
func TestNoDisk(t *testing.T) {
	for want, d := range map[api.Errno]*disk.Disk{api.ErrNil: nil, api.ErrPower: off(t)} {
		for _, n := range numbers {
			wantError(t, "P8.2: Create", Create(d, n), want)
			wantError(t, "P8.2: Append", Append(d, n, "a"), want)
			wantError(t, "P8.2: Append of too much", Append(d, n, longBody+"b"), api.ErrLong)
			wantError(t, "P8.2: Remove", Remove(d, n), want)
			wantNoLog(t, "P8.3", d, n, want)
		}
	}
}

// TestUnmade: a disk that wasn't made by New has no room.
func TestUnmade(t *testing.T) {
	d := &disk.Disk{}
	wantNoLog(t, "P1", d, 7, api.ErrNone)
	wantError(t, "P1: Create", Create(d, 7), api.OK)
	wantError(t, "P1: Append", Append(d, 7, ""), api.ErrFull)
	wantLog(t, "P1", d, 7, false)
	wantError(t, "P1: Remove", Remove(d, 7), api.OK)
}

// TestNoLog: of a log that isn't there; none of these calls changes anything, or goes on to a second one.
func TestNoLog(t *testing.T) {
	d := made(t, 7, framed("a"))
	wantOK(t, d.Create("other"))
	for _, n := range []int64{0, 6, 8, 70000000} {
		wantError(t, "P8.2: Append to none", Append(d, n, "a"), api.ErrNone)
		wantError(t, "P8.2: Append of too much to none", Append(d, n, longBody+"b"), api.ErrLong)
		wantError(t, "P8.2: Remove of none", Remove(d, n), api.ErrNone)
		wantNoLog(t, "P8.3: none", d, n, api.ErrNone)
	}
	wantError(t, "P8.2: Create of what is there", Create(d, 7), api.ErrThere)
	wantBytes(t, "P8.2", d, 7, framed("a"))
	d.Crash(0)
	wantList(t, "P8.2: no SyncDir behind an error", d, "log-00000007")
}

// TestOthers: files of other kinds are none of the log's.
func TestOthers(t *testing.T) {
	d := disk.New(100)
	for _, name := range []string{"table-00000007", "log-7", "log", "logs-00000007", "log-00000007x"} {
		wantOK(t, d.Create(name), d.Append(name, "x"))
	}
	wantNoLog(t, "P8.3: none", d, 7, api.ErrNone)
	wantError(t, "P8.2: Remove of none", Remove(d, 7), api.ErrNone)
	wantError(t, "P8.2: Create", Create(d, 7), api.OK)
	wantError(t, "P8.2: Remove", Remove(d, 7), api.OK)
	wantList(t, "P8.2", d, "log", "log-00000007x", "log-7", "logs-00000007", "table-00000007")
	if d.Used() != 5 {
		t.Errorf("P8.2: the others have %d bytes", d.Used())
	}
}

// TestLong: a body may be as long as a frame's; a longer one changes nothing.
func TestLong(t *testing.T) {
	d := made(t, 7, framed("a"))
	wantOK(t, d.Append("log-00000007", framed("b")))
	for _, more := range []string{"b", strings.Repeat("b", api.MaxBody), strings.Repeat("b", 1<<21)} {
		wantError(t, "P8.2: Append of too much", Append(d, 7, longBody+more), api.ErrLong)
		wantBytes(t, "P8.2: behind ErrLong", d, 7, framed("a", "b"))
	}
	d.Crash(0)
	wantBytes(t, "P8.2: no Sync behind ErrLong", d, 7, framed("a"))
	for _, body := range []string{longBody, longBody[1:], ""} {
		wantError(t, "P8.2: Append", Append(d, 7, body), api.OK)
	}
	wantLog(t, "P8.3", d, 7, false, "a", longBody, longBody[1:], "")
}

// TestFull: the disk's ErrFull, for each of its reasons.
func TestFull(t *testing.T) {
	d := disk.New(len(framed("ab", "c")))
	wantOK(t, Create(d, 7), Append(d, 7, "ab"))
	wantError(t, "P8.2: Append above the room", Append(d, 7, "cd"), api.ErrFull)
	wantLog(t, "P8.2: behind ErrFull", d, 7, false, "ab")
	wantError(t, "P8.2: Append up to the room", Append(d, 7, "c"), api.OK)
	wantError(t, "P8.2: Append above the room", Append(d, 7, ""), api.ErrFull)
	d.Crash(0)
	wantLog(t, "P8.2: behind ErrFull", d, 7, false, "ab", "c")
	for i := range api.MaxFiles - 1 {
		wantOK(t, d.Create(fmt.Sprint(i)))
	}
	wantError(t, "P8.2: Create of one file too many", Create(d, 8), api.ErrFull)
	wantError(t, "P8.2: Create of what is there, among as many as may be", Create(d, 7), api.ErrThere)
	d.Crash(0)
	wantList(t, "P8.2: no SyncDir behind an error", d, "log-00000007")
}

// TestMaxFile: a log is as long as a file may be.
func TestMaxFile(t *testing.T) {
	d := disk.New(2 * api.MaxFile)
	wantOK(t, Create(d, 7))
	var want []string
	for range api.MaxFile / (api.MaxBody + 8) {
		wantOK(t, Append(d, 7, longBody))
		want = append(want, longBody)
	}
	left := api.MaxFile - d.Used()
	wantError(t, "P8.2: Append above MaxFile", Append(d, 7, longBody[:left-7]), api.ErrFull)
	wantLog(t, "P8.2: behind ErrFull", d, 7, false, want...)
	wantError(t, "P8.2: Append up to MaxFile", Append(d, 7, longBody[:left-8]), api.OK)
	wantLog(t, "P8.3", d, 7, false, append(want, longBody[:left-8])...)
	wantError(t, "P8.2: Append above MaxFile", Append(d, 7, ""), api.ErrFull)
}

// tail: what may stand behind whole frames, and what Read tells of it.
type tail struct {
	bytes   string
	cut     bool
	damaged bool
}

// tails: the ends that a log may have: none, a frame that is cut off anywhere, one that is damaged, one that is both.
func tails() []tail {
	l := []tail{{"", false, false}}
	for _, last := range []string{framed(""), framed("a"), framed("abc"), framed("\x00\x00\xff\xff"), framed(strings.Repeat("z", 40))} {
		for end := 1; end < len(last); end++ {
			l = append(l, tail{last[:end], true, false})
		}
		for bit := range 8 * len(last) {
			b := []byte(last)
			b[bit/8] ^= 1 << (bit % 8)
			s := string(b)
			l = append(l, tail{s, false, true}, tail{s + framed("b"), false, true})
			for end := bit/8 + 1; end < len(last); end++ {
				// What isn't there whole is damaged only where its lengths tell it.
				damaged := bit/8 < 4 && end >= 4
				l = append(l, tail{s[:end], !damaged, damaged})
			}
		}
	}
	return append(l,
		tail{framed("abc")[:10] + framed("d"), false, true},
		tail{"\x00\x00\x00\x00", false, true},
		tail{"log", true, false},
		tail{"log-00000007", false, true},
		tail{"\xff\xff\x00\x00", true, false},
		tail{"\xff\xff\x00\x00" + longBody, true, false})
}

// TestRead: logs that are whole, cut off anywhere within the last frame, and damaged, behind any count of whole frames.
func TestRead(t *testing.T) {
	for _, ahead := range [][]string{nil, {"x"}, {"", "y", "longer", ""}} {
		for _, l := range tails() {
			s := framed(ahead...) + l.bytes
			d := made(t, 7, s)
			what := fmt.Sprintf("P8.3: %d bodies and %.80x", len(ahead), l.bytes)
			for range 2 {
				if l.damaged {
					wantNoLog(t, what, d, 7, api.ErrSum)
				} else {
					wantLog(t, what, d, 7, l.cut, ahead...)
				}
			}
			wantBytes(t, what, d, 7, s)
		}
	}
}

// TestSpoiled: a log of which one bit is turned, of each of its frames, is never read.
func TestSpoiled(t *testing.T) {
	d := disk.New(100)
	wantOK(t, Create(d, 7), Append(d, 7, "abc"), Append(d, 7, ""), Append(d, 7, "d"))
	for bit := range 8 * len(framed("abc", "", "d")) {
		d.Spoil(Name(7), bit)
		wantNoLog(t, fmt.Sprintf("P8.3: the bit %d turned", bit), d, 7, api.ErrSum)
		d.Spoil(Name(7), bit)
		wantLog(t, "P8.3: the bit turned back", d, 7, false, "abc", "", "d")
	}
}

// TestReadLong: the longest body, cut off at its edges.
func TestReadLong(t *testing.T) {
	s := framed("a", longBody)
	for _, end := range []int{9, 10, 12, 13, 16, 17, 18, len(s) - 1, len(s)} {
		d := made(t, 7, s[:end])
		want := []string{"a"}
		if end == len(s) {
			want = append(want, longBody)
		}
		wantLog(t, fmt.Sprintf("P8.3: %d bytes", end), d, 7, end > 9 && end < len(s), want...)
	}
}

// TestReadChangesNothing: Read makes no bytes or names last, and isn't counted as a call that changes.
func TestReadChangesNothing(t *testing.T) {
	d := made(t, 7, framed("a"))
	wantOK(t, d.Append(Name(7), framed("b")), d.Create(Name(8)))
	d.Cut(1, 0)
	wantLog(t, "P8.3", d, 7, false, "a", "b")
	wantLog(t, "P8.3", d, 8, false)
	wantError(t, "P4.4: the first call that changes", d.SyncDir(), api.ErrPower)
	d.On()
	wantLog(t, "P8.3", d, 7, false, "a")
	wantNoLog(t, "P8.3", d, 8, api.ErrNone)
}

// TestAnswersAreNew: what Read answers may be changed.
func TestAnswersAreNew(t *testing.T) {
	d := made(t, 7, framed("a", "b"))
	l, _, _ := Read(d, 7)
	m, _, _ := Read(d, 7)
	l[0], l[1] = "x", "y"
	_ = append(l[:1], "z")
	if !slices.Equal(m, []string{"a", "b"}) {
		t.Errorf("rule 4: another answer is %q now", m)
	}
	d.Spoil(Name(7), 8*8)
	if !slices.Equal(m, []string{"a", "b"}) {
		t.Errorf("rule 4: an answer is %q now", m)
	}
}

// TestApart: two disks have nothing to do with one another.
func TestApart(t *testing.T) {
	a, b := disk.New(100), disk.New(100)
	wantOK(t, Create(a, 7), Append(a, 7, "a"))
	wantList(t, "P2", b)
	wantError(t, "P2: Append to none", Append(b, 7, "b"), api.ErrNone)
	wantOK(t, Create(b, 7), Append(b, 7, "b"), Remove(a, 7))
	wantLog(t, "P2", b, 7, false, "b")
}
