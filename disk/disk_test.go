package disk

import (
	"go/ast"
	"go/parser"
	"go/token"
	"go/types"
	"math"
	"slices"
	"strconv"
	"strings"
	"testing"

	"oxbow/api"
)

// TestWays: ways of layer 4: names stand in maps, out of which they are deleted, and which are gone through; what a call does is a closure; a file's bytes are cut with their room.
func TestWays(t *testing.T) {
	d := New(100)
	var names, lasting map[string]*file
	wantOK(t, d.Create("a"), d.Append("a", "xyz"), d.SyncDir(), d.Create("b"), d.Remove("b"))
	names, lasting = d.names, d.lasting
	if len(names) != 1 || len(lasting) != 1 || names["a"] == nil || lasting["a"] != names["a"] {
		t.Errorf("the names are %v, those that last %v", names, lasting)
	}
	var change func(bool, func()) api.Errno = d.change
	done := false
	if e := change(doneAhead, func() { done = true }); !done || e != api.OK {
		t.Errorf("a closure is done: %t, %d", done, e)
	}
	d.Crash(0, 1)
	if f := d.names["a"]; string(f.bytes) != "x" || cap(f.bytes) != 1 {
		t.Errorf("of the bytes there are %q, with room for %d", f.bytes, cap(f.bytes))
	}
	file, err := parser.ParseFile(token.NewFileSet(), "disk.go", nil, 0)
	if err != nil {
		t.Fatal(err)
	}
	there := map[string]bool{}
	ast.Inspect(file, func(n ast.Node) bool {
		switch x := n.(type) {
		case *ast.CallExpr:
			there[types.ExprString(x.Fun)] = true
		case *ast.RangeStmt:
			there["range "+types.ExprString(x.X)] = true
		case *ast.FuncLit:
			there["closure"] = true
		case *ast.SliceExpr:
			there["three indices"] = there["three indices"] || x.Slice3
		}
		return true
	})
	for _, way := range []string{"delete", "range d.names", "closure", "three indices"} {
		if !there[way] {
			t.Errorf("way missing: %s", way)
		}
	}
}

func TestExamples(t *testing.T) {
	d := New(100)
	wantOK(t, d.Create("a"), d.Append("a", "xy"), d.Sync("a"))
	d.Crash(0)
	wantRead(t, "example 1", d, "a", "", api.ErrNone)
	d = New(100)
	wantOK(t, d.Create("a"), d.Append("a", "xy"), d.Sync("a"), d.SyncDir())
	d.Crash(0)
	wantRead(t, "example 2", d, "a", "xy", api.OK)
}

// wantOK: all calls were OK.
func wantOK(t *testing.T, l ...api.Errno) {
	t.Helper()
	for i, e := range l {
		if e != api.OK {
			t.Errorf("call %d is %d", i, e)
		}
	}
}

func wantError(t *testing.T, what string, e, want api.Errno) {
	t.Helper()
	if e != want {
		t.Errorf("%s is %d, not %d", what, e, want)
	}
}

func wantRead(t *testing.T, what string, d *Disk, name, want string, wantError api.Errno) {
	t.Helper()
	if s, e := d.Read(name); s != want || e != wantError {
		t.Errorf("%s: Read of %.10q is %.20q, of %d, and %d, not %.20q, %d", what, name, s, len(s), e, want, wantError)
	}
}

func wantList(t *testing.T, what string, d *Disk, want ...string) {
	t.Helper()
	if l := d.List(); !slices.Equal(l, want) {
		t.Errorf("%s: List is %.10q, not %.10q", what, l, want)
	}
}

func wantUsed(t *testing.T, what string, d *Disk, want int) {
	t.Helper()
	if n := d.Used(); n != want {
		t.Errorf("%s: Used is %d, not %d", what, n, want)
	}
}

// filled: a disk with files that last, each with its bytes.
func filled(t *testing.T, room int, files ...[2]string) *Disk {
	t.Helper()
	d := New(room)
	for _, f := range files {
		wantOK(t, d.Create(f[0]), d.Append(f[0], f[1]), d.Sync(f[0]))
	}
	wantOK(t, d.SyncDir())
	return d
}

func TestNew(t *testing.T) {
	for _, room := range []int{math.MinInt, -1, 0, 1, 2, 100, math.MaxInt} {
		what := "P4.1: New(" + strconv.Itoa(room) + ")"
		d := New(room)
		if d == nil || d.Off() {
			t.Fatalf("%s is nil, or off", what)
		}
		wantList(t, what, d)
		wantUsed(t, what, d, 0)
		wantRead(t, what, d, "a", "", api.ErrNone)
		wantOK(t, d.SyncDir(), d.Create("a"), d.Append("a", ""))
		fits := min(max(room, 0), 50)
		wantOK(t, d.Append("a", strings.Repeat("x", fits)))
		if room < 50 {
			wantError(t, what+": an Append above the room", d.Append("a", "x"), api.ErrFull)
		}
		wantUsed(t, what, d, fits)
	}
}

// errorCalls: every call that tells an error, each with it; -1, where something is read beside it.
func errorCalls(d *Disk, name string) map[string]api.Errno {
	read, e := d.Read(name)
	if read != "" {
		e = -1
	}
	part, f := d.Part(name, 0, 1)
	if part != "" {
		f = -1
	}
	return map[string]api.Errno{"Create": d.Create(name), "Append": d.Append(name, "x"), "Sync": d.Sync(name), "SyncDir": d.SyncDir(), "Rename": d.Rename(name, name), "Remove": d.Remove(name), "Read": e, "Part": f}
}

func TestNil(t *testing.T) {
	var d *Disk
	for _, name := range []string{"", "a", strings.Repeat("a", api.MaxKey+1)} {
		for call, e := range errorCalls(d, name) {
			wantError(t, "P4.1: "+call+" of a nil disk", e, api.ErrNil)
		}
	}
	if s, e := d.Part("a", -1, 0); s != "" || e != api.ErrNil {
		t.Errorf("P4.1: Part of a nil disk is %q, %d", s, e)
	}
	d.Crash(1, 2)
	d.Cut(1, 1, 1)
	d.Break(1)
	d.On()
	d.Spoil("a", 1)
	wantError(t, "P4.1: Create of a nil disk behind all", d.Create("a"), api.ErrNil)
	if d.Off() || d.Used() != 0 || len(d.List()) != 0 {
		t.Error("P4.1: a nil disk isn't on, or has something")
	}
}

// TestUnmade: a disk that New didn't make has no room; no call of it panics.
func TestUnmade(t *testing.T) {
	d := &Disk{}
	d.Spoil("a", 1)
	d.Crash(1, 1)
	wantList(t, "P1", d)
	wantOK(t, d.Create("a"), d.SyncDir(), d.Rename("a", "b"), d.Append("b", ""))
	wantError(t, "P1: Append above the room", d.Append("b", "x"), api.ErrFull)
	d.Crash(0)
	wantList(t, "P1", d, "a")
	e := new(Disk)
	e.Cut(1, 1)
	wantError(t, "P1: a Create that is cut", e.Create("a"), api.ErrPower)
	wantList(t, "P1", e, "a")
}

var longName = strings.Repeat("n", api.MaxKey)

func TestCreate(t *testing.T) {
	d := New(100)
	for _, name := range []string{"b", "a", longName, "a b", "\x00", "\xff\xfe", "a\n", "A"} {
		wantError(t, "P4.3: Create", d.Create(name), api.OK)
		wantRead(t, "P4.3", d, name, "", api.OK)
		wantError(t, "P4.2: Create of what is there", d.Create(name), api.ErrThere)
	}
	for _, name := range []string{"", longName + "n", longName + longName, strings.Repeat("a", 1e6)} {
		wantError(t, "P4.2: Create of no name", d.Create(name), api.ErrArg)
	}
	wantList(t, "P4.3", d, "\x00", "A", "a", "a\n", "a b", "b", longName, "\xff\xfe")
	wantOK(t, d.Append("a", "x"))
	wantError(t, "P4.2: Create of what is there", d.Create("a"), api.ErrThere)
	wantRead(t, "P4.2: behind a Create of what is there", d, "a", "x", api.OK)
}

// TestMaxFiles: as many names as there may be; a name that goes makes room for another one.
func TestMaxFiles(t *testing.T) {
	d := New(100)
	for i := range api.MaxFiles {
		wantOK(t, d.Create(strconv.Itoa(i)))
	}
	for range 2 {
		if n := len(d.List()); n != api.MaxFiles {
			t.Errorf("P4.2: %d names are there", n)
		}
		wantError(t, "P4.2: Create of one too many", d.Create("a"), api.ErrFull)
		wantError(t, "P4.2: Create of one that is there", d.Create("7"), api.ErrThere)
		wantError(t, "P4.2: Create of no name", d.Create(""), api.ErrArg)
		wantOK(t, d.Rename("0", "b"), d.Append("b", "x"), d.Remove("b"), d.Create("0"))
	}
	wantOK(t, d.Rename("0", "1"), d.Create("c"))
	wantError(t, "P4.2: Create of one too many", d.Create("d"), api.ErrFull)
	d.Crash(api.MaxFiles - 1)
	wantOK(t, d.Create("d"))
	wantError(t, "P4.2: Create of one too many", d.Create("e"), api.ErrFull)
}

func TestAppend(t *testing.T) {
	d := New(10)
	wantError(t, "P4.2: Append to none", d.Append("a", "x"), api.ErrNone)
	wantError(t, "P4.2: Append to none", d.Append("", "x"), api.ErrNone)
	wantError(t, "P4.2: Append of too much to none", d.Append("a", strings.Repeat("x", 1<<21)), api.ErrNone)
	wantOK(t, d.Create("a"), d.Create("b"), d.Append("a", "x\x00"), d.Append("b", "12345"), d.Append("a", ""), d.Append("a", "\xffy"))
	wantRead(t, "P4.3", d, "a", "x\x00\xffy", api.OK)
	wantRead(t, "P4.3", d, "b", "12345", api.OK)
	wantUsed(t, "P4.3", d, 9)
	wantError(t, "P4.2: Append above the room", d.Append("a", "12"), api.ErrFull)
	wantRead(t, "P4.2", d, "a", "x\x00\xffy", api.OK)
	wantOK(t, d.Append("b", "6"))
	wantError(t, "P4.2: Append above the room", d.Append("a", "1"), api.ErrFull)
	wantOK(t, d.Append("a", ""), d.Remove("b"), d.Append("a", "123456"))
	wantRead(t, "P4.3", d, "a", "x\x00\xffy123456", api.OK)
	wantError(t, "P4.2: Append above the room", d.Append("a", "1"), api.ErrFull)
	wantError(t, "P4.2: Append to one that is gone", d.Append("b", ""), api.ErrNone)
	wantUsed(t, "P4.3", d, 10)
}

func TestMaxFile(t *testing.T) {
	d := New(math.MaxInt)
	wantOK(t, d.Create("a"), d.Create("b"), d.Append("a", "x"))
	wantError(t, "P4.2: Append above MaxFile", d.Append("a", strings.Repeat("y", api.MaxFile)), api.ErrFull)
	wantError(t, "P4.2: Append above MaxFile", d.Append("b", strings.Repeat("y", api.MaxFile+1)), api.ErrFull)
	wantOK(t, d.Append("a", strings.Repeat("y", api.MaxFile-1)), d.Append("b", strings.Repeat("z", api.MaxFile)))
	for _, name := range []string{"a", "b"} {
		wantError(t, "P4.2: Append above MaxFile", d.Append(name, "y"), api.ErrFull)
		wantOK(t, d.Append(name, ""))
	}
	wantRead(t, "P4.3", d, "a", "x"+strings.Repeat("y", api.MaxFile-1), api.OK)
	wantUsed(t, "P4.3", d, 2*api.MaxFile)
}

// TestAboveRoom: a loss of power brings a file back, beside the bytes that took its room.
func TestAboveRoom(t *testing.T) {
	d := filled(t, 4, [2]string{"a", "1234"}, [2]string{"b", ""})
	wantOK(t, d.Remove("a"), d.Append("b", "567"), d.Sync("b"))
	d.Crash(0)
	wantList(t, "P4.4", d, "a", "b")
	wantUsed(t, "P4.4", d, 7)
	wantError(t, "P4.2: Append of nothing, above the room", d.Append("b", ""), api.ErrFull)
	wantError(t, "P4.2: Append above the room", d.Append("a", "x"), api.ErrFull)
	wantOK(t, d.Remove("a"), d.Append("b", "8"))
	wantError(t, "P4.2: Append above the room", d.Append("b", "9"), api.ErrFull)
}

// TestNone: of a name that isn't there; none of these calls changes anything.
func TestNone(t *testing.T) {
	d := filled(t, 100, [2]string{"a", "x"}, [2]string{"gone", "y"})
	wantOK(t, d.Remove("gone"), d.SyncDir())
	for _, name := range []string{"", "b", "A", "a\x00", "gone", longName, longName + "n"} {
		wantError(t, "P4.2: Append to none", d.Append(name, "y"), api.ErrNone)
		wantError(t, "P4.2: Sync of none", d.Sync(name), api.ErrNone)
		wantError(t, "P4.2: Remove of none", d.Remove(name), api.ErrNone)
		wantError(t, "P4.2: Rename of none to itself", d.Rename(name, name), api.ErrNone)
		wantRead(t, "P4.2: none", d, name, "", api.ErrNone)
		for _, to := range []string{"", "a", longName + "n"} {
			wantError(t, "P4.2: Rename of none", d.Rename(name, to), api.ErrNone)
		}
		if s, e := d.Part(name, -1, -1); s != "" || e != api.ErrNone {
			t.Errorf("P4.2: Part of none is %q, %d", s, e)
		}
	}
	wantList(t, "P4.2", d, "a")
	wantRead(t, "P4.2", d, "a", "x", api.OK)
}

func TestPart(t *testing.T) {
	data := "abcdefgh"
	d := filled(t, 100, [2]string{"a", data}, [2]string{"empty", ""})
	for at := -2; at <= len(data)+2; at++ {
		for n := -2; n <= len(data)+2; n++ {
			want, wantE := "", api.ErrArg
			if at >= 0 && n >= 0 && at+n <= len(data) {
				want, wantE = data[at:at+n], api.OK
			}
			if s, e := d.Part("a", at, n); s != want || e != wantE {
				t.Errorf("P4.3: Part(%d, %d) is %q, %d", at, n, s, e)
			}
		}
	}
	for _, far := range []int{math.MinInt, math.MinInt + 1, math.MaxInt - 1, math.MaxInt} {
		for _, near := range []int{0, 1, len(data), far} {
			for _, p := range [][2]int{{far, near}, {near, far}} {
				if s, e := d.Part("a", p[0], p[1]); s != "" || e != api.ErrArg {
					t.Errorf("P4.2: Part(%d, %d) is %q, %d", p[0], p[1], s, e)
				}
			}
		}
	}
	if s, e := d.Part("empty", 0, 0); s != "" || e != api.OK {
		t.Errorf("P4.3: Part of no bytes is %q, %d", s, e)
	}
	if s, e := d.Part("empty", 0, 1); s != "" || e != api.ErrArg {
		t.Errorf("P4.2: Part of no bytes is %q, %d", s, e)
	}
}

func TestRename(t *testing.T) {
	d := filled(t, 100, [2]string{"a", "xx"}, [2]string{"b", "yyy"})
	for _, to := range []string{"", longName + "n"} {
		wantError(t, "P4.2: Rename to no name", d.Rename("a", to), api.ErrArg)
	}
	wantOK(t, d.Rename("a", "a"))
	wantList(t, "P4.3", d, "a", "b")
	wantRead(t, "P4.3: Rename to itself", d, "a", "xx", api.OK)
	wantOK(t, d.Rename("a", longName))
	wantRead(t, "P4.3", d, longName, "xx", api.OK)
	wantRead(t, "P4.3", d, "a", "", api.ErrNone)
	wantOK(t, d.Rename(longName, "b"))
	wantList(t, "P4.3", d, "b")
	wantRead(t, "P4.3: Rename to what is there", d, "b", "xx", api.OK)
	wantUsed(t, "P4.3: Rename to what is there", d, 2)
	wantOK(t, d.Append("b", "z"), d.Create("a"), d.Append("a", "1"))
	wantRead(t, "P4.3", d, "b", "xxz", api.OK)
	wantRead(t, "P4.3", d, "a", "1", api.OK)
}

func TestRemove(t *testing.T) {
	d := filled(t, 100, [2]string{"a", "xx"}, [2]string{"b", "yyy"})
	wantOK(t, d.Remove("a"))
	wantList(t, "P4.3", d, "b")
	wantUsed(t, "P4.3", d, 3)
	wantRead(t, "P4.3", d, "a", "", api.ErrNone)
	wantError(t, "P4.3: Remove of what is gone", d.Remove("a"), api.ErrNone)
	wantOK(t, d.Create("a"))
	wantRead(t, "P4.3: a new file of an old name", d, "a", "", api.OK)
}

// TestKept: what is handed in isn't kept, what is answered may be changed.
func TestKept(t *testing.T) {
	d := filled(t, 100, [2]string{"a", ""}, [2]string{"b", ""})
	l := d.List()
	l[0], l[1] = "z", "z"
	wantList(t, "rule 4", d, "a", "b")
	numbers := append(make([]int, 0, 10), 1, 2)
	wantOK(t, d.Append("a", "123"), d.Append("b", "123"))
	d.Cut(1, 0, numbers...)
	numbers[0], numbers[1] = 0, 0
	wantError(t, "P4.4: Sync that is cut", d.Sync("a"), api.ErrPower)
	d.On()
	wantRead(t, "rule 4", d, "a", "1", api.OK)
	wantRead(t, "rule 4", d, "b", "12", api.OK)
	wantOK(t, d.Append("a", "45"), d.Append("b", "45"))
	numbers = []int{1, 2, 9, 9}
	d.Crash(0, numbers[:2]...)
	wantRead(t, "rule 4", d, "a", "14", api.OK)
	wantRead(t, "rule 4", d, "b", "1245", api.OK)
	if !slices.Equal(numbers, []int{1, 2, 9, 9}) {
		t.Errorf("rule 4: the numbers are %d now", numbers)
	}
	s, _ := d.Read("a")
	p, _ := d.Part("a", 0, 2)
	d.Spoil("a", 0)
	if s != "14" || p != "14" {
		t.Errorf("rule 4: what was read is %q and %q now", s, p)
	}
}

// TestApart: two disks have nothing to do with one another.
func TestApart(t *testing.T) {
	a, b := New(10), New(20)
	wantOK(t, a.Create("x"), a.Append("x", "1234567890"), a.Sync("x"), a.SyncDir())
	wantList(t, "P2", b)
	wantOK(t, b.Create("y"), b.Create("x"), b.Append("x", "12345678901"))
	a.Cut(1, 0)
	wantOK(t, b.Sync("x"))
	wantError(t, "P2: SyncDir that is cut", a.SyncDir(), api.ErrPower)
	a.Spoil("x", 0)
	if b.Off() {
		t.Error("P2: the other disk is off")
	}
	b.Crash(2)
	wantList(t, "P2", b, "x", "y")
	wantRead(t, "P2", b, "x", "12345678901", api.OK)
	if !a.Off() {
		t.Error("P2: the other disk is on")
	}
}
