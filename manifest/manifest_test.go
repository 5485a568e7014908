package manifest

import (
	"fmt"
	"math"
	"slices"
	"strings"
	"testing"

	"oxbow/api"
	"oxbow/disk"
	"oxbow/version"
)

var (
	numbers   = []int64{0, 1, 3, 7, 10, 12345678, 99999998, 99999999}
	noNumbers = []int64{-1, -2, -99999999, 100000000, 100000001, 1 << 31, 1 << 32, 1<<32 + 3, math.MaxInt64, math.MinInt64, math.MinInt64 + 1}
)

var longText = strings.Repeat("z", api.MaxBody)

// few is a version of three tables.
func few(t *testing.T) version.Version {
	return made(t, version.Edit{Add: []version.Place{
		table(0, 3, "a", "c"), table(0, 4, "b", "b"), table(2, 5, "", "zz"),
	}, Log: 2, Next: 9, Seq: 700})
}

func table(level int, file int64, lo, hi string) version.Place {
	return version.Place{Level: level, Meta: version.Meta{File: file, Size: 10 * file, Lo: lo, Hi: hi}}
}

// made: the version that edits make.
func made(t *testing.T, edits ...version.Edit) version.Version {
	t.Helper()
	var v version.Version
	for i, edit := range edits {
		var e api.Errno
		if v, e = v.Apply(edit); e != api.OK {
			t.Fatalf("edit %d is %d", i, e)
		}
	}
	return v
}

// wide: a version of so many tables, in all levels.
func wide(t *testing.T, tables int) version.Version {
	t.Helper()
	e := version.Edit{Log: 7, Next: int64(tables) + 8, Seq: 1 << 40}
	for i := range tables {
		e.Add = append(e.Add, table(i*7%4, int64(i), fmt.Sprintf("%05d", i), fmt.Sprintf("%05dx", i)))
	}
	return made(t, e)
}

// long: a version of these tables and a last one, whose part has so many bytes.
func long(t *testing.T, size int, ahead ...version.Place) version.Version {
	t.Helper()
	e := version.Edit{Add: []version.Place{table(3, 99, "", longText[:60000])}, Next: 1000}
	e.Add = append(e.Add, ahead[len(ahead)/256*256:]...)
	e.Add[0].Meta.Hi = strings.Repeat("z", 60000+size-len(version.Put(e)))
	if n := len(version.Put(e)); n != size {
		t.Fatalf("the part has %d bytes, not %d", n, size)
	}
	e.Add = append(slices.Clone(ahead), e.Add[0])
	return made(t, e)
}

// alike: so many tables, each of which has as many bytes as another one.
func alike(tables int) []version.Place {
	var l []version.Place
	for i := range tables {
		l = append(l, version.Place{Level: 0, Meta: version.Meta{File: 100 + int64(i)}})
	}
	return l
}

// bytesOf: all that a version has, as bytes.
func bytesOf(v version.Version) string { return version.Put(v.Whole()) }

func wantOK(t *testing.T, l ...api.Errno) {
	t.Helper()
	for i, e := range l {
		if e != api.OK {
			t.Fatalf("call %d is %d", i, e)
		}
	}
}

func wantError(t *testing.T, what string, e, want api.Errno) {
	t.Helper()
	if e != want {
		t.Errorf("%s is %d, not %d", what, e, want)
	}
}

func wantList(t *testing.T, what string, d *disk.Disk, want ...string) {
	t.Helper()
	if l := d.List(); !slices.Equal(l, want) {
		t.Errorf("%s: the disk has %.60q, not %.60q", what, l, want)
	}
}

func wantBytes(t *testing.T, what string, d *disk.Disk, name, want string) {
	t.Helper()
	if s, e := d.Read(name); s != want || e != api.OK {
		t.Errorf("%s: %s has %d bytes %.80x, and %d, not %d bytes %.80x", what, name, len(s), s, e, len(want), want)
	}
}

// wantLoad: what Load tells; with an error, nothing beside it.
func wantLoad(t *testing.T, what string, d *disk.Disk, v version.Version, n int64, e api.Errno) {
	t.Helper()
	if w, m, why := Load(d); bytesOf(w) != bytesOf(v) || m != n || why != e {
		t.Errorf("%s: Load is %.200q, %d, %d, not %.200q, %d, %d", what, bytesOf(w), m, why, bytesOf(v), n, e)
	}
}

func wantNoLoad(t *testing.T, what string, d *disk.Disk, e api.Errno) {
	t.Helper()
	wantLoad(t, what, d, version.Version{}, 0, e)
}

// wantUntouched: none of the calls since the disk's Break(1) changed anything.
func wantUntouched(t *testing.T, what string, d *disk.Disk) {
	t.Helper()
	wantError(t, what+": the first call that changes", d.SyncDir(), api.ErrFull)
}

// started: a disk on which a manifest tells a version.
func started(t *testing.T, n int64, v version.Version) *disk.Disk {
	t.Helper()
	d := disk.New(1 << 22)
	wantOK(t, Start(d, n, v))
	return d
}

// off: a disk whose power is off, with what it has.
func off(t *testing.T, d *disk.Disk) *disk.Disk {
	t.Helper()
	d.Cut(1, 0)
	wantError(t, "P4.4: SyncDir that is cut", d.SyncDir(), api.ErrPower)
	return d
}

func TestExample(t *testing.T) {
	if Current != "current" {
		t.Errorf("Current is %q", Current)
	}
	for _, v := range []version.Version{{}, few(t)} {
		d := disk.New(1000)
		wantError(t, "example: Start", Start(d, 3, v), api.OK)
		wantList(t, "example", d, "current", "manifest-00000003")
		wantLoad(t, "example", d, v, 3, api.OK)
	}
}

// TestBytes: what stands in the files, byte by byte.
func TestBytes(t *testing.T) {
	d := disk.New(1000)
	wantOK(t, Start(d, 3, version.Version{}))
	wantBytes(t, "P16.1", d, "current", "\x00\x11\xff\xee\x7b\x43\x5d\xe7"+"manifest-00000003")
	wantBytes(t, "P16.1: of no table", d, "manifest-00000003", "\x00\x05\xff\xfa\xc6\x22\xf7\x1d"+"\x00\x00\x00\x00\x00")
	v := made(t, version.Edit{Add: []version.Place{{Level: 1, Meta: version.Meta{File: 3, Size: 9, Lo: "a", Hi: "c"}}}, Log: 2, Next: 5, Seq: 7})
	wantOK(t, Start(d, 4, v))
	first := framed("\x04\x0a\x0e\x00\x02\x02\x06\x12\x02a\x02c")
	wantBytes(t, "P16.1: of one table", d, "manifest-00000004", first)
	wantBytes(t, "P16.1", d, "current", framed("manifest-00000004"))
	wantOK(t, Add(d, 4, version.Edit{Drop: []int64{3}, Log: 4, Next: 6, Seq: 8}))
	wantBytes(t, "P16.1: behind Add", d, "manifest-00000004", first+framed("\x08\x0c\x10\x02\x06\x00"))
	wantList(t, "P16.1: the elder one stays", d, "current", "manifest-00000003", "manifest-00000004")
	wantLoad(t, "P16.2", d, version.Version{Log: 4, Next: 6, Seq: 8}, 4, api.OK)
}

// TestLife: what an ordinary program does: a version, edits, a new manifest, edits again.
func TestLife(t *testing.T) {
	d, v := disk.New(10000), version.Version{}
	wantOK(t, Start(d, 0, v))
	for i := range int64(6) {
		e := version.Edit{Add: []version.Place{table(0, 2*i+1, "a", "b")}, Log: 2 * i, Next: 2*i + 2, Seq: 10 * i}
		if i > 2 {
			e.Drop = []int64{2*i - 3}
		}
		v, _ = v.Apply(e)
		wantError(t, "P16.1: Add", Add(d, i/3, e), api.OK)
		wantLoad(t, "P16.2", d, v, i/3, api.OK)
		d.Crash(0)
		wantLoad(t, "P16.4: what was told lasts", d, v, i/3, api.OK)
		if i%3 == 2 {
			wantError(t, "P16.1: Start", Start(d, i/3+1, v), api.OK)
			d.Crash(0)
			wantLoad(t, "P16.4: what was told lasts", d, v, i/3+1, api.OK)
		}
	}
	wantList(t, "P16.1", d, "current", "manifest-00000000", "manifest-00000001", "manifest-00000002")
	wantOK(t, Clean(d, 2, v))
	wantList(t, "P16.3", d, "current", "manifest-00000002")
	wantLoad(t, "P16.2", d, v, 2, api.OK)
}

// TestNumbers: each number that has a name may be a manifest's.
func TestNumbers(t *testing.T) {
	d := disk.New(1 << 20)
	for i, n := range numbers {
		wantError(t, "P16.1: Start", Start(d, n, few(t)), api.OK)
		wantLoad(t, "P16.2", d, few(t), n, api.OK)
		wantError(t, "P16.1: Add", Add(d, n, version.Edit{Log: 2, Next: 9 + int64(i), Seq: 700}), api.OK)
		v := few(t)
		v.Next += int64(i)
		wantLoad(t, "P16.2", d, v, n, api.OK)
	}
}

// TestNoNumber: of a number that no manifest has each call is ErrArg, ahead of every other error, and changes nothing.
func TestNoNumber(t *testing.T) {
	broken := started(t, 3, few(t))
	broken.Break(1)
	tooLong := long(t, api.MaxBody+1)
	for what, d := range map[string]*disk.Disk{"a nil disk": nil, "a disk without power": off(t, started(t, 3, few(t))), "a disk without room": disk.New(0), "a full disk": broken} {
		for _, n := range noNumbers {
			for _, v := range []version.Version{{}, few(t), tooLong} {
				wantError(t, "P16.1: Start of no name on "+what, Start(d, n, v), api.ErrArg)
				wantError(t, "P16.1: Add to no name on "+what, Add(d, n, v.Whole()), api.ErrArg)
			}
		}
	}
	wantUntouched(t, "P16.1: ErrArg", broken)
	wantList(t, "P16.1: ErrArg", broken, "current", "manifest-00000003")
}

// TestNoDisk: a nil disk's error, and that of a disk without power.
func TestNoDisk(t *testing.T) {
	for want, d := range map[api.Errno]*disk.Disk{api.ErrNil: nil, api.ErrPower: off(t, started(t, 3, few(t)))} {
		for _, n := range numbers {
			wantError(t, "P16.1: Start", Start(d, n, few(t)), want)
			wantError(t, "P16.1: Start of too much", Start(d, n, long(t, api.MaxBody+1)), api.ErrLong)
			wantError(t, "P16.1: Add", Add(d, n, few(t).Whole()), want)
			wantError(t, "P16.1: Add of too much", Add(d, n, long(t, api.MaxBody+1).Whole()), api.ErrLong)
		}
		wantNoLoad(t, "P16.2", d, want)
	}
}

// TestUnmade: a disk that wasn't made by New has no room.
func TestUnmade(t *testing.T) {
	d := &disk.Disk{}
	wantNoLoad(t, "P1", d, api.ErrNone)
	wantError(t, "P1: Clean", Clean(d, 3, few(t)), api.OK)
	wantError(t, "P1: Start", Start(d, 3, few(t)), api.ErrFull)
	wantError(t, "P1: Add", Add(d, 3, version.Edit{}), api.ErrFull)
	wantError(t, "P1: Clean", Clean(d, 4, few(t)), api.OK)
	wantList(t, "P1", d)
}

// TestParts: versions of any count of tables stand in frames of 256 tables each.
func TestParts(t *testing.T) {
	for tables, frames := range map[int]int{0: 1, 1: 1, 2: 1, 255: 1, 256: 1, 257: 2, 511: 2, 512: 2, 513: 3, 1000: 4, 4096: 16, 4097: 17, 9000: 36} {
		v := wide(t, tables)
		d := started(t, 3, v)
		what := fmt.Sprintf("P16.1: of %d tables", tables)
		wantBytes(t, what, d, "manifest-00000003", framed(partBodies(v)...))
		wantBytes(t, what, d, "current", framed("manifest-00000003"))
		s, _ := d.Read("manifest-00000003")
		bodies, behind := unframed(s)
		if len(bodies) != frames || behind != "" {
			t.Errorf("%s: the manifest has %d frames, not %d; %s", what, len(bodies), frames, behind)
		}
		left := tables
		for i, body := range bodies {
			e, why := version.Get(body)
			if n := min(left, 256); why != api.OK || len(e.Add) != n || len(e.Drop) != 0 || e.Log != v.Log || e.Next != v.Next || e.Seq != v.Seq {
				t.Errorf("%s: part %d, %d, adds %d, drops %d, with %d, %d, %d", what, i, why, len(e.Add), len(e.Drop), e.Log, e.Next, e.Seq)
			}
			left -= len(e.Add)
		}
		wantLoad(t, what, d, v, 3, api.OK)
		d.Crash(0)
		wantLoad(t, what+", behind a loss of power", d, v, 3, api.OK)
	}
}

// TestEdge: a part, an edit, whose bytes are just as many as a frame's body may have, or one more.
func TestEdge(t *testing.T) {
	// The longest table is the only one of its part, the last one of a part of several, and one of the last part of some.
	for _, n := range []int{0, 1, 100, 255, 256, 257, 300, 511, 512} {
		what := fmt.Sprintf("P16.1: %d tables ahead", n)
		v := long(t, api.MaxBody, alike(n)...)
		wantLoad(t, what, started(t, 3, v), v, 3, api.OK)
		for _, more := range []int{1, 2, 1000, 1 << 18} {
			wantTooLong(t, what, long(t, api.MaxBody+more, alike(n)...))
		}
	}
	// The part that is too long has others behind it.
	first := append([]version.Place{{Level: 0, Meta: version.Meta{File: 999, Hi: longText}}}, alike(300)...)
	wantTooLong(t, "P16.1: the first part", made(t, version.Edit{Add: first, Next: 1000}))
}

// wantTooLong: a version is ErrLong, and nothing is changed.
func wantTooLong(t *testing.T, what string, v version.Version) {
	t.Helper()
	d := started(t, 3, few(t))
	d.Break(1)
	wantError(t, what+", too long: Start", Start(d, 4, v), api.ErrLong)
	wantError(t, what+", too long: Start of what is there", Start(d, 3, v), api.ErrLong)
	if len(v.Files()) == 1 {
		wantError(t, what+", too long: Add", Add(d, 3, v.Whole()), api.ErrLong)
		wantError(t, what+", too long: Add to none", Add(d, 4, v.Whole()), api.ErrLong)
	}
	wantUntouched(t, what+", too long", d)
	wantList(t, what+", too long", d, "current", "manifest-00000003")
	wantLoad(t, what+", too long", d, few(t), 3, api.OK)
}

// TestEdgeOfAdd: an edit whose bytes are just as many as a frame's body may have.
func TestEdgeOfAdd(t *testing.T) {
	e := long(t, api.MaxBody).Whole()
	d := started(t, 3, version.Version{})
	wantError(t, "P16.1: Add", Add(d, 3, e), api.OK)
	wantLoad(t, "P16.2", d, made(t, e), 3, api.OK)
	e.Seq = 64
	wantError(t, "P16.1: Add of a byte more", Add(d, 3, e), api.ErrLong)
	// Edits aren't cut into parts, however many tables they have.
	w := wide(t, 1500)
	wantError(t, "P16.1: Add", Add(started(t, 3, version.Version{}), 3, w.Whole()), api.OK)
	wantError(t, "P16.1: Add", Add(d, 3, wide(t, 6000).Whole()), api.ErrLong)
}

// TestAnyEdit: Add asks only whether there is room for an edit, not whether it can be; Start likewise of a version.
func TestAnyEdit(t *testing.T) {
	for i, e := range []version.Edit{
		{Log: -1, Next: -2, Seq: math.MinInt64},
		{Drop: []int64{5, 5, -7, math.MaxInt64}},
		{Add: []version.Place{table(-1, 3, "b", "a"), table(4, 3, "b", "a"), table(math.MinInt, -3, "", "")}},
		{Log: 2, Next: 2},
	} {
		d := started(t, 3, few(t))
		what := fmt.Sprintf("P16.1: edit %d", i)
		wantError(t, what+": Add", Add(d, 3, e), api.OK)
		wantBytes(t, what, d, "manifest-00000003", framed(partBodies(few(t))...)+framed(version.Put(e)))
		wantNoLoad(t, what, d, api.ErrForm)
	}
	bad := few(t)
	bad.Levels[1] = []version.Meta{{File: -1, Size: -1, Lo: "b", Hi: "a"}}
	d := started(t, 3, bad)
	wantBytes(t, "P16.1: no version", d, "manifest-00000003", framed(partBodies(bad)...))
	wantNoLoad(t, "P16.2: no version", d, api.ErrForm)
}

// TestArgumentsStay: what is handed in isn't changed, nor what lies behind it, and isn't kept.
func TestArgumentsStay(t *testing.T) {
	v := few(t)
	for i, tables := range v.Levels {
		room := append(slices.Clone(tables), version.Meta{File: -7, Lo: "behind"}, version.Meta{File: -8})
		v.Levels[i] = room[:len(tables)]
	}
	e := version.Edit{Add: make([]version.Place, 1, 5), Drop: make([]int64, 1, 5), Log: 2, Next: 9, Seq: 700}
	e.Add[0], e.Drop[0] = table(3, 8, "a", "b"), 5
	d := started(t, 3, v)
	wantOK(t, Add(d, 3, e), Clean(d, 3, v))
	for i, tables := range v.Levels {
		n := len(tables)
		if got := fmt.Sprint(tables[:n+2]); got != fmt.Sprint(append(slices.Clone(few(t).Levels[i]), version.Meta{File: -7, Lo: "behind"}, version.Meta{File: -8})) {
			t.Errorf("rule 4: level %d is %s now", i, got)
		}
	}
	if got := fmt.Sprint(e.Add[:2], e.Drop[:2]); got != fmt.Sprint([]version.Place{table(3, 8, "a", "b"), {}}, []int64{5, 0}) {
		t.Errorf("rule 4: the edit is %s now", got)
	}
	v.Levels[0][0].File, e.Add[0].Meta.File, e.Drop[0] = 8, 7, 4
	wantLoad(t, "rule 4", d, made(t, few(t).Whole(), version.Edit{Add: []version.Place{table(3, 8, "a", "b")}, Drop: []int64{5}, Log: 2, Next: 9, Seq: 700}), 3, api.OK)
}

// TestApart: two disks have nothing to do with one another.
func TestApart(t *testing.T) {
	a, b := disk.New(1000), disk.New(1000)
	wantOK(t, Start(a, 3, few(t)))
	wantList(t, "P2", b)
	wantNoLoad(t, "P2", b, api.ErrNone)
	wantError(t, "P2: Add to none", Add(b, 3, version.Edit{}), api.ErrNone)
	wantOK(t, Start(b, 3, version.Version{}), Clean(a, 4, version.Version{}))
	wantLoad(t, "P2", b, version.Version{}, 3, api.OK)
}
