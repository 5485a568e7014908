package disk

import (
	"math"
	"slices"
	"strconv"
	"strings"
	"testing"

	"oxbow/api"
)

// residue: the remainder of a number, told apart from the program: that of one below 0 is that of -(it + 1).
func residue(n, by int) int {
	if n < 0 {
		n = ^n
	}
	return n - n/by*by
}

// numbers are those for names and bytes: around 0, around the lengths of queues and lists, the least and the greatest.
var numbers = []int{0, 1, 2, 3, 4, 5, 6, 7, 8, 9, 13, 100, -1, -2, -3, -4, -5, -6, -7, -8, -100, math.MaxInt, math.MaxInt - 1, math.MinInt, math.MinInt + 1}

// TestCrashNames: each count of what was done to names lasts, by every number.
func TestCrashNames(t *testing.T) {
	behind := [][]string{{"a=1", "b=2"}, {"a=1", "b=2", "c="}, {"b=1", "c="}, {"b=1"}, {"d=1"}, {"a=3", "d=1"}}
	for _, n := range numbers {
		d := filled(t, 100, [2]string{"a", "1"}, [2]string{"b", "2"})
		wantOK(t, d.Create("c"), d.Rename("a", "b"), d.Rename("b", "b"), d.Remove("c"), d.Rename("b", "d"), d.Create("a"), d.Append("a", "3"), d.Sync("a"))
		wantList(t, "P4.3", d, "a", "d")
		d.Crash(n)
		wantState(t, "P4.4: Crash("+strconv.Itoa(n)+")", d, behind[residue(n, 6)]...)
		d.Crash(n)
		wantState(t, "P4.4: one more Crash("+strconv.Itoa(n)+")", d, behind[residue(n, 6)]...)
	}
}

// wantState: the names, each with its file's bytes.
func wantState(t *testing.T, what string, d *Disk, want ...string) {
	t.Helper()
	var l []string
	used := 0
	for _, name := range d.List() {
		f := d.names[name]
		l = append(l, name+"="+string(f.bytes))
		used += len(f.bytes)
	}
	if !slices.Equal(l, want) || d.Used() != used {
		t.Errorf("%s: the disk has %q, and tells %d bytes, not %q", what, l, d.Used(), want)
	}
}

// TestCrashBytes: of each file the bytes last that were synced, and as many behind them as its number tells.
func TestCrashBytes(t *testing.T) {
	lists := [][]int{nil, {}}
	for _, n := range numbers {
		lists = append(lists, []int{n}, []int{n, 1}, []int{2, n}, []int{n, 0, -n}, []int{0, 1, 2, n}, []int{0, 1, 2, 3, n})
	}
	for _, l := range lists {
		d := New(100)
		var want []string
		// 0: nothing synced; 1: some, 2: all, 3: synced, and gone; 4: of the name that was 3's; 5: without bytes
		wantOK(t, d.Create("a"), d.Append("a", "12345"))
		wantOK(t, d.Create("b"), d.Append("b", "12"), d.Sync("b"), d.Append("b", "34"), d.Append("b", "5"))
		wantOK(t, d.Create("c"), d.Append("c", "12345"), d.Sync("c"))
		wantOK(t, d.Create("d"), d.Append("d", "123"), d.Sync("d"), d.Remove("d"))
		wantOK(t, d.Create("d"), d.Append("d", "987654"))
		wantOK(t, d.Create("e"), d.SyncDir())
		d.Crash(0, l...)
		for file, f := range []struct {
			name, bytes string
			synced      int
		}{{"a", "12345", 0}, {"b", "12345", 2}, {"c", "12345", 5}, {"", "123", 3}, {"d", "987654", 0}, {"e", "", 0}} {
			n := 0
			if len(l) > 0 {
				n = l[file%len(l)]
			}
			if f.name != "" {
				want = append(want, f.name+"="+f.bytes[:f.synced+residue(n, len(f.bytes)-f.synced+1)])
			}
		}
		what := "P4.4: Crash of bytes by " + strconv.Itoa(len(l))
		for _, n := range l {
			what += " " + strconv.Itoa(n)
		}
		wantState(t, what, d, want...)
		d.Crash(0)
		wantState(t, what+", once more", d, want...)
	}
}

// TestNumbersOfFiles: a number is taken by each Create that is done, also by one that is cut, and never used again; not by one that is refused, or broken.
func TestNumbersOfFiles(t *testing.T) {
	d := New(100)
	wantOK(t, d.Create("a"))
	wantError(t, "P4.2: Create of what is there", d.Create("a"), api.ErrThere)
	wantError(t, "P4.2: Create of no name", d.Create(""), api.ErrArg)
	d.Break(1)
	wantError(t, "P4.4: Create that is broken", d.Create("b"), api.ErrFull)
	wantOK(t, d.Create("b"), d.Remove("b"), d.SyncDir())
	d.Cut(1, 0)
	wantError(t, "P4.4: Create that is cut", d.Create("c"), api.ErrPower)
	wantError(t, "P4.4: Create without power", d.Create("c"), api.ErrPower)
	d.On()
	wantList(t, "P4.4", d, "a")
	wantOK(t, d.Create("d"), d.Append("d", "123456789"), d.Append("a", "123456789"), d.SyncDir())
	d.Crash(0, 1, 2, 3, 4)
	wantState(t, "P4.4: the files 0 and 3", d, "a=1", "d=1234")
	wantOK(t, d.Remove("a"), d.Remove("d"), d.SyncDir(), d.Create("a"), d.SyncDir(), d.Append("a", "123456789"))
	d.Crash(0, 9, 8, 7, 6, 5, 4, 3)
	wantState(t, "P4.4: the file 4", d, "a=12345")
}

// TestCrashWithin: a file that has lost its name is brought back with what lasts of its bytes.
func TestCrashWithin(t *testing.T) {
	d := filled(t, 100, [2]string{"a", "12"})
	wantOK(t, d.Append("a", "34"), d.Remove("a"))
	d.Crash(2, 1)
	wantState(t, "P4.4: a Remove that doesn't last", d, "a=123")
	wantOK(t, d.Create("b"), d.Append("b", "xy"), d.Rename("b", "a"))
	d.Crash(1, 2, 1)
	wantState(t, "P4.4: a Create, and no Rename, that lasts", d, "a=123", "b=x")
	wantOK(t, d.Rename("b", "a"))
	d.Crash(1)
	wantState(t, "P4.4: a Rename that lasts", d, "a=x")
	wantOK(t, d.Rename("a", "a"), d.Create("c"), d.Rename("c", "c"))
	d.Crash(1)
	wantState(t, "P4.4: a Rename to itself isn't in the queue", d, "a=x", "c=")
	wantOK(t, d.Create("e"), d.Create("f"), d.Create("g"), d.SyncDir(), d.Remove("g"))
	d.Crash(0)
	wantState(t, "P4.3: SyncDir", d, "a=x", "c=", "e=", "f=", "g=")
}

// TestLostForGood: what a loss of power took isn't read, nor brought back by what is appended behind.
func TestLostForGood(t *testing.T) {
	d := filled(t, 100, [2]string{"a", "12"})
	wantOK(t, d.Append("a", "3456"))
	d.Crash(0, 1)
	wantState(t, "P4.4", d, "a=123")
	if s, e := d.Part("a", 2, 2); s != "" || e != api.ErrArg {
		t.Errorf("P4.4: Part of what is lost is %q, %d", s, e)
	}
	wantOK(t, d.Append("a", "x"))
	wantState(t, "P4.4", d, "a=123x")
	d.Crash(0)
	wantState(t, "P4.4: the third byte lasts", d, "a=123")
	wantOK(t, d.Append("a", "yz"), d.Sync("a"), d.Append("a", "!"))
	d.Crash(0, 0)
	wantState(t, "P4.3: Sync", d, "a=123yz")
}

// action is a call that changes, of a disk that begun makes.
type action struct {
	name  string
	call  func(d *Disk) api.Errno
	names int   // with this number the whole queue lasts
	bytes []int // with these all bytes
	done  []string
	all   []string // what a cut leaves with these numbers
	none  []string // and what with noughts
}

var actions = []action{
	{"Create", func(d *Disk) api.Errno { return d.Create("c") }, 2, []int{1, 2}, []string{"a=12", "b=34", "c="}, []string{"a=12", "b=34", "c="}, []string{"a=1"}},
	{"Append", func(d *Disk) api.Errno { return d.Append("a", "3") }, 1, []int{2, 2}, []string{"a=123", "b=34"}, []string{"a=123", "b=34"}, []string{"a=1"}},
	{"Append to b", func(d *Disk) api.Errno { return d.Append("b", "5") }, 1, []int{1, 3}, []string{"a=12", "b=345"}, []string{"a=12", "b=345"}, []string{"a=1"}},
	{"Append of nothing", func(d *Disk) api.Errno { return d.Append("a", "") }, 1, []int{1, 2}, []string{"a=12", "b=34"}, []string{"a=12", "b=34"}, []string{"a=1"}},
	{"Sync", func(d *Disk) api.Errno { return d.Sync("a") }, 1, []int{1, 2}, []string{"a=12", "b=34"}, []string{"a=12", "b=34"}, []string{"a=1"}},
	{"SyncDir", func(d *Disk) api.Errno { return d.SyncDir() }, 1, []int{1, 2}, []string{"a=12", "b=34"}, []string{"a=12", "b=34"}, []string{"a=1"}},
	{"Rename", func(d *Disk) api.Errno { return d.Rename("b", "a") }, 2, []int{1, 2}, []string{"a=34"}, []string{"a=34"}, []string{"a=1"}},
	{"Rename to itself", func(d *Disk) api.Errno { return d.Rename("a", "a") }, 1, []int{1, 2}, []string{"a=12", "b=34"}, []string{"a=12", "b=34"}, []string{"a=1"}},
	{"Remove", func(d *Disk) api.Errno { return d.Remove("a") }, 2, []int{1, 2}, []string{"b=34"}, []string{"b=34"}, []string{"a=1"}},
}

// begun: a disk with a and one byte, that last, and behind these another byte, and b with two, that don't.
func begun(t *testing.T) *Disk {
	t.Helper()
	d := filled(t, 100, [2]string{"a", "1"})
	wantOK(t, d.Append("a", "2"), d.Create("b"), d.Append("b", "34"))
	return d
}

var undone = []string{"a=12", "b=34"}

// counts are numbers of a call to come.
var counts = []int{math.MinInt, -1, 0, 1, 2, 5}

// TestCut: each call that changes, the n-th one from the Cut on.
func TestCut(t *testing.T) {
	for _, n := range counts {
		for _, a := range actions {
			what := "P4.4: " + a.name + " cut by " + strconv.Itoa(n)
			d := begun(t)
			d.Cut(n, a.names, a.bytes...)
			wantCut(t, what+", all", d, n, a, a.all)
			d = begun(t)
			d.Cut(n, 0, 0)
			wantCut(t, what+", none", d, n, a, a.none)
			d = begun(t)
			d.Cut(n, 0)
			wantCut(t, what+", without a list", d, n, a, a.none)
		}
	}
}

// wantCut: the power is on ahead of the n-th call, that of a, and off behind it.
func wantCut(t *testing.T, what string, d *Disk, n int, a action, want []string) {
	t.Helper()
	for range max(n, 1) - 1 {
		wantOK(t, d.Append("a", ""))
	}
	if d.Off() {
		t.Errorf("%s: off too early", what)
	}
	wantError(t, what, a.call(d), api.ErrPower)
	if !d.Off() {
		t.Errorf("%s: not off", what)
	}
	wantState(t, what, d, want...)
	wantOffCalls(t, what, d)
	wantState(t, what, d, want...)
	d.On()
	if d.Off() {
		t.Errorf("%s: off behind On", what)
	}
	wantState(t, what, d, want...)
	d.Crash(0)
	wantState(t, what+", crashed", d, want...)
	wantAllOK(t, d)
}

// wantAllOK: nothing is cut or broken, as far as a few calls tell.
func wantAllOK(t *testing.T, d *Disk) {
	t.Helper()
	wantOK(t, d.Create("z"), d.Append("z", "x"), d.Sync("z"), d.SyncDir(), d.Rename("z", "y"), d.Remove("y"), d.SyncDir())
}

// wantOffCalls: without power every call that tells an error tells ErrPower, ahead of all its others.
func wantOffCalls(t *testing.T, what string, d *Disk) {
	t.Helper()
	for _, name := range []string{"", "a", "new", longName + "n"} {
		for call, e := range errorCalls(d, name) {
			wantError(t, what+": "+call+" without power", e, api.ErrPower)
		}
		wantError(t, what+": Rename without power", d.Rename("a", name), api.ErrPower)
		if s, e := d.Part(name, -1, -1); s != "" || e != api.ErrPower {
			t.Errorf("%s: Part without power is %q, %d", what, s, e)
		}
	}
	wantError(t, what+": Append above MaxFile without power", d.Append("a", strings.Repeat("x", api.MaxFile+1)), api.ErrPower)
}

// TestBreak: each call that changes, the n-th one from the Break on, does nothing; the one behind it does.
func TestBreak(t *testing.T) {
	for _, n := range counts {
		for _, a := range actions {
			what := "P4.4: " + a.name + " broken by " + strconv.Itoa(n)
			d := begun(t)
			d.Break(n)
			for range max(n, 1) - 1 {
				wantOK(t, d.Append("a", ""))
			}
			wantError(t, what, a.call(d), api.ErrFull)
			if d.Off() {
				t.Errorf("%s: off", what)
			}
			wantState(t, what, d, undone...)
			wantOK(t, a.call(d))
			wantState(t, what+", once more", d, a.done...)
			d = begun(t)
			d.Break(1)
			wantError(t, what, a.call(d), api.ErrFull)
			d.Crash(0)
			wantState(t, what+", crashed", d, "a=1")
			wantAllOK(t, d)
		}
	}
}

// refused are calls that are refused by one of their errors, and such as change nothing: none of them counts.
func refused(t *testing.T, d *Disk) {
	t.Helper()
	wantError(t, "P4.2: Create", d.Create("a"), api.ErrThere)
	wantError(t, "P4.2: Create", d.Create(""), api.ErrArg)
	wantError(t, "P4.2: Append", d.Append("x", ""), api.ErrNone)
	wantError(t, "P4.2: Append", d.Append("a", strings.Repeat("x", 101)), api.ErrFull)
	wantError(t, "P4.2: Sync", d.Sync("x"), api.ErrNone)
	wantError(t, "P4.2: Rename", d.Rename("x", "y"), api.ErrNone)
	wantError(t, "P4.2: Rename", d.Rename("a", ""), api.ErrArg)
	wantError(t, "P4.2: Remove", d.Remove("x"), api.ErrNone)
	wantRead(t, "P4.3", d, "a", "12", api.OK)
	if s, e := d.Part("a", 1, 1); s != "2" || e != api.OK {
		t.Errorf("P4.3: Part is %q, %d", s, e)
	}
	wantList(t, "P4.3", d, "a", "b")
	wantUsed(t, "P4.3", d, 4)
	d.Spoil("a", 0)
	d.Spoil("a", 0)
}

// TestCounted: what counts for a Cut and a Break, and what doesn't.
func TestCounted(t *testing.T) {
	d := begun(t)
	d.Cut(2, 1, 1, 2)
	refused(t, d)
	wantOK(t, d.Sync("b"))
	refused(t, d)
	wantError(t, "P4.4: the second call that changes", d.Sync("a"), api.ErrPower)
	d = begun(t)
	d.Break(2)
	refused(t, d)
	wantOK(t, d.SyncDir())
	refused(t, d)
	wantError(t, "P4.4: the second call that changes", d.Sync("a"), api.ErrFull)
	refused(t, d)
	wantAllOK(t, d)
}

// TestFurther: a further Cut, or Break, takes the place of the one before; a Cut and a Break leave each other be.
func TestFurther(t *testing.T) {
	d := begun(t)
	d.Cut(1, 0, 0)
	d.Cut(3, 1, 1, 2)
	d.Break(1)
	d.Break(2)
	wantOK(t, d.Sync("b"))
	wantError(t, "P4.4: the further Break", d.Sync("b"), api.ErrFull)
	wantError(t, "P4.4: the further Cut, for which what is broken counts", d.Create("c"), api.ErrPower)
	wantState(t, "P4.4: the further Cut's numbers", d, "a=12", "b=34")
	d = begun(t)
	d.Cut(1, 0, 0)
	d.Break(2)
	wantError(t, "P4.4: a Cut ahead of a Break", d.Append("a", "x"), api.ErrPower)
	wantError(t, "P4.4: without power", d.Append("a", "x"), api.ErrPower)
	d.On()
	wantAllOK(t, d)
}

// TestBoth: where both are at one call the Cut counts, and the Break is spent too.
func TestBoth(t *testing.T) {
	for _, n := range []int{1, 2, 4} {
		for _, a := range actions {
			what := "P4.4: " + a.name + " cut and broken"
			d := begun(t)
			d.Break(n)
			d.Cut(n, a.names, a.bytes...)
			wantCut(t, what, d, n, a, a.all)
			d = begun(t)
			d.Cut(n, 0)
			d.Break(n)
			wantCut(t, what, d, n, a, a.none)
		}
	}
}

// TestOn: On and Crash take back what is set, with the power on and off.
func TestOn(t *testing.T) {
	for _, back := range []func(d *Disk){(*Disk).On, func(d *Disk) { d.Crash(1, 1, 2) }} {
		d := begun(t)
		d.Cut(1, 0)
		d.Break(2)
		back(d)
		wantState(t, "P4.4", d, undone...)
		wantAllOK(t, d)
		d.Cut(1, 2)
		wantError(t, "P4.4: cut", d.Create("c"), api.ErrPower)
		d.Cut(1, 1)
		d.Break(1)
		wantError(t, "P4.4: without power nothing is done, and nothing cut", d.Create("d"), api.ErrPower)
		d.Cut(2, 1)
		d.Break(3)
		back(d)
		if d.Off() {
			t.Error("P4.4: off behind On, or Crash")
		}
		wantAllOK(t, d)
	}
	d := begun(t)
	d.On()
	wantState(t, "P4.4: On of a disk that is on", d, undone...)
	d.Crash(0)
	wantState(t, "P4.4: On makes nothing last", d, "a=1")
}

// TestSpoil: every bit, and what stands for it.
func TestSpoil(t *testing.T) {
	data := "\x00\xff\x5a"
	for bit := range 24 {
		turned := []byte(data)
		turned[bit/8] ^= 1 << (bit % 8)
		for _, b := range []int{bit, bit + 24, bit + 240, -1 - bit, -25 - bit, math.MaxInt/24*24 - 24 + bit, -(math.MaxInt/24*24 - 24 + bit) - 1} {
			d := filled(t, 100, [2]string{"a", data}, [2]string{"b", data})
			d.Spoil("a", b)
			wantRead(t, "P4.5: Spoil of "+strconv.Itoa(b), d, "a", string(turned), api.OK)
			wantRead(t, "P4.5: the other file", d, "b", data, api.OK)
			if s, e := d.Part("a", bit/8, 1); s != string(turned[bit/8:bit/8+1]) || e != api.OK {
				t.Errorf("P4.5: Part is %q, %d", s, e)
			}
			wantUsed(t, "P4.5", d, 6)
			d.Crash(0)
			wantRead(t, "P4.5: behind a loss of power", d, "a", string(turned), api.OK)
			d.Spoil("a", b)
			wantRead(t, "P4.5: twice", d, "a", data, api.OK)
		}
	}
	for _, bit := range []int{math.MinInt, math.MaxInt} {
		d := filled(t, 100, [2]string{"a", "\x00\x00\x00"})
		d.Spoil("a", bit)
		turned := []byte{0, 0, 0}
		turned[residue(bit, 24)/8] = 1 << (residue(bit, 24) % 8)
		wantRead(t, "P4.5: Spoil of "+strconv.Itoa(bit), d, "a", string(turned), api.OK)
	}
}

// TestSpoilLasts: a turned bit lasts as far as its byte does; none is turned where there are none.
func TestSpoilLasts(t *testing.T) {
	d := filled(t, 100, [2]string{"a", "\x00"}, [2]string{"empty", ""})
	wantOK(t, d.Append("a", "\x00\x00"))
	for _, bit := range []int{0, 15, 17} {
		d.Spoil("a", bit)
	}
	for _, name := range []string{"", "none", "empty", longName + "n"} {
		d.Spoil(name, 0)
		d.Spoil(name, -1)
		d.Spoil(name, math.MinInt)
	}
	wantState(t, "P4.5", d, "a=\x01\x80\x02", "empty=")
	d.Crash(0, 1)
	wantState(t, "P4.5: behind a loss of power", d, "a=\x01\x80", "empty=")
	wantOK(t, d.Append("a", "\x00"))
	wantState(t, "P4.5: what is appended", d, "a=\x01\x80\x00", "empty=")
	d.Cut(1, 0)
	wantError(t, "P4.4: cut", d.Remove("empty"), api.ErrPower)
	d.Spoil("a", 15)
	d.On()
	wantState(t, "P4.5: without power", d, "a=\x01\x00", "empty=")
	wantOK(t, d.Remove("a"))
	d.Spoil("a", 0)
	d.Crash(0)
	wantState(t, "P4.5: of a name that was gone", d, "a=\x01\x00", "empty=")
}
