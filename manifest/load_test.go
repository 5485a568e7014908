package manifest

import (
	"fmt"
	"testing"

	"oxbow/api"
	"oxbow/disk"
	"oxbow/version"
)

// written: a disk whose files current and manifest-00000003 have these bytes, which last.
func written(t *testing.T, current, manifest string) *disk.Disk {
	t.Helper()
	d := disk.New(1 << 22)
	for _, f := range [][2]string{{"current", current}, {"manifest-00000003", manifest}} {
		wantOK(t, d.Create(f[0]), d.Append(f[0], f[1]), d.Sync(f[0]))
	}
	wantOK(t, d.SyncDir())
	return d
}

// good: what stands in current.
var good = framed("manifest-00000003")

// puts: the bytes of edits.
func puts(l ...version.Edit) []string {
	var bodies []string
	for _, e := range l {
		bodies = append(bodies, version.Put(e))
	}
	return bodies
}

func TestLoadOfNone(t *testing.T) {
	d := disk.New(1000)
	wantNoLoad(t, "P16.2: an empty disk", d, api.ErrNone)
	for _, name := range []string{"current-next", "manifest-00000003", "Current", "current ", "currents", "log-00000003"} {
		wantOK(t, d.Create(name), d.Append(name, good))
		wantNoLoad(t, "P16.2: no current", d, api.ErrNone)
	}
	wantNoLoad(t, "P16.2: a nil disk", nil, api.ErrNil)
	wantNoLoad(t, "P16.2: a disk without power", off(t, elder(t)), api.ErrPower)
	wantNoLoad(t, "P16.2: an empty disk without power", off(t, disk.New(0)), api.ErrPower)
}

// TestCurrentIsNoFrame: whatever the manifest is, current is one frame, or ErrSum.
func TestCurrentIsNoFrame(t *testing.T) {
	var l []string
	for end := range len(good) {
		l = append(l, good[:end], good+good[:end+1], good+"manifest-00000003"[:min(end+1, 17)])
	}
	l = append(l, "manifest-00000003", "x", good+"\x00", good+"\n", good+framed(""), framed("")+good, framed("", ""), "\x00\x00\x00\x00", "\xff\xff\x00\x00", " "+good, "\x00"+good, framed("x")+"x", framed("x", "x"), framed("manifest-3")+"\x00")
	for _, s := range l {
		for _, manifest := range []string{framed(partBodies(few(t))...), "", "x"} {
			wantNoLoad(t, fmt.Sprintf("P16.2: a current of %x", s), written(t, s, manifest), api.ErrSum)
		}
		d := written(t, s, "")
		wantOK(t, d.Remove("manifest-00000003"))
		wantNoLoad(t, fmt.Sprintf("P16.2: a current of %x without a manifest", s), d, api.ErrSum)
	}
}

// TestTurnedBits: with any one bit turned, of current or of the manifest, nothing is told.
func TestTurnedBits(t *testing.T) {
	d := elder(t)
	for _, name := range []string{"current", "manifest-00000003"} {
		s, _ := d.Read(name)
		for bit := range 8 * len(s) {
			d.Spoil(name, bit)
			wantNoLoad(t, fmt.Sprintf("P16.2: %s with the bit %d turned", name, bit), d, api.ErrSum)
			d.Spoil(name, bit)
		}
		wantLoad(t, "P16.2: turned back", d, grown(t), 3, api.OK)
	}
}

// TestCurrentNamesNone: the name of no manifest is ErrForm, that of one that isn't there ErrNone.
func TestCurrentNamesNone(t *testing.T) {
	manifest := framed(partBodies(few(t))...)
	for _, s := range []string{
		"", "manifest", "manifest-", "manifest-3", "manifest-0000003", "manifest-000000003", "manifest-100000003", "manifest-+0000003", "manifest--0000003", "manifest-0000000x", "manifest-0000_003",
		"manifest-00000003 ", " manifest-00000003", "manifest-00000003\n", "manifest-00000003\x00", "Manifest-00000003", "manifests-00000003", "anifest-00000003", "manifest_00000003", "manifest-00000003manifest-00000003",
		"log-00000003", "table-00000003", "current", "current-next", "00000003", "-00000003", "\x00", longText,
	} {
		d := written(t, framed(s), manifest)
		wantOK(t, d.Create("log-00000003"), d.Append("log-00000003", manifest), d.Create("table-00000003"), d.Append("table-00000003", manifest))
		wantNoLoad(t, fmt.Sprintf("P16.2: current names %.40q", s), d, api.ErrForm)
	}
	for _, s := range []string{"manifest-00000000", "manifest-00000002", "manifest-00000004", "manifest-00000030", "manifest-99999999"} {
		wantNoLoad(t, "P16.2: current names "+s, written(t, framed(s), manifest), api.ErrNone)
	}
	d := written(t, good, manifest)
	wantLoad(t, "P16.2", d, few(t), 3, api.OK)
	wantOK(t, d.Remove("manifest-00000003"))
	wantNoLoad(t, "P16.2: the manifest is gone", d, api.ErrNone)
}

// TestCutOff: a manifest that is cut off anywhere tells what its whole frames do; with none of them it is ErrForm.
func TestCutOff(t *testing.T) {
	edits := []version.Edit{few(t).Whole(), more(), {Log: 8, Next: 11, Seq: 900}, {Drop: []int64{5, 4}, Log: 8, Next: 12, Seq: 900}}
	s := framed(puts(edits...)...)
	for end := range len(s) + 1 {
		what := fmt.Sprintf("P16.2: of %d bytes of a manifest %d", len(s), end)
		d := written(t, good, s[:end])
		whole := 0
		for whole < len(edits) && len(framed(puts(edits[:whole+1]...)...)) <= end {
			whole++
		}
		if whole == 0 {
			wantNoLoad(t, what, d, api.ErrForm)
			continue
		}
		wantLoad(t, what, d, made(t, edits[:whole]...), 3, api.OK)
	}
	// What is cut off isn't looked at, even where it can't be an edit.
	for _, behind := range []string{framed("x")[:8], framed(longText)[:1000], "\xff\xff\x00\x00", "x", "\x00\x00\xff"} {
		wantLoad(t, "P16.2: cut off", written(t, good, s+behind), made(t, edits...), 3, api.OK)
		wantNoLoad(t, "P16.2: cut off, with nothing ahead", written(t, good, behind), api.ErrForm)
	}
}

// TestDamaged: a manifest whose frames end by what is no frame, or by a wrong sum, is ErrSum, whatever stands ahead or behind.
func TestDamaged(t *testing.T) {
	wrong := framed("abc")[:10] + "d"
	for _, ahead := range [][]string{nil, partBodies(few(t)), {"x"}, {""}, puts(version.Edit{Drop: []int64{1}})} {
		for _, fault := range []string{"\x00\x00\x00\x00", "manifest", "\x00\x01\xff\xff", wrong, framed("abc")[:4] + "\x00\x00\x00\x00abc", framed(longText)[:65535+7] + "x"} {
			for _, behind := range []string{"", "\x00\x00\x00\x00", framed(version.Put(more()))} {
				s := framed(ahead...) + fault + behind
				wantNoLoad(t, fmt.Sprintf("P16.2: a manifest of %.80x", s), written(t, good, s), api.ErrSum)
			}
		}
	}
}

// TestNoEdits: a body that is no edit, or an edit that can't be, is ErrForm at whatever place it stands.
func TestNoEdits(t *testing.T) {
	whole := version.Put(few(t).Whole())
	bad := []string{"", "x", "\x80", whole + "\x00", whole[:len(whole)-1], "\x00\x00\x00\x00\x00\x00", "\x00\x00\x00\x01\x00", "\x00\x00\x00\x00\x02\x08\x00\x00\x00\x00", "\x80\x00\x00\x00\x00\x00", "manifest-00000003"}
	bad = append(bad, puts(
		version.Edit{Log: 2, Next: 2, Seq: 700}, version.Edit{Log: 10, Next: 9, Seq: 700}, version.Edit{Log: 2, Next: 9, Seq: -1}, version.Edit{Log: -1, Next: 9, Seq: 700}, version.Edit{Next: -1},
		version.Edit{Drop: []int64{77}, Log: 2, Next: 9, Seq: 700}, version.Edit{Drop: []int64{3, 3}, Log: 2, Next: 9, Seq: 700},
		version.Edit{Add: []version.Place{table(0, 9, "a", "b")}, Log: 2, Next: 9, Seq: 700}, version.Edit{Add: []version.Place{table(0, 8, "b", "a")}, Log: 2, Next: 9, Seq: 700},
		version.Edit{Add: []version.Place{table(4, 8, "a", "b")}, Log: 2, Next: 9, Seq: 700}, version.Edit{Add: []version.Place{table(1, 7, "a", "b"), table(1, 8, "b", "c")}, Log: 2, Next: 9, Seq: 700},
	)...)
	for _, body := range bad {
		for i, bodies := range [][]string{{body}, {body, whole}, {whole, body}, {whole, version.Put(more()), body}, {whole, body, version.Put(more())}} {
			for _, behind := range []string{"", framed("abc")[:9]} {
				wantNoLoad(t, fmt.Sprintf("P16.2: %x at the place %d", body, i), written(t, good, framed(bodies...)+behind), api.ErrForm)
			}
		}
	}
	// These can be behind none, and only there; or behind few, and only there.
	wantLoad(t, "P16.2", written(t, good, framed(whole)), few(t), 3, api.OK)
	wantNoLoad(t, "P16.2: twice the same tables", written(t, good, framed(whole, whole)), api.ErrForm)
	wantNoLoad(t, "P16.2: back to front", written(t, good, framed(version.Put(more()), whole)), api.ErrForm)
	back := version.Put(version.Edit{Log: 1, Next: 9, Seq: 700})
	wantNoLoad(t, "P16.2: numbers that fall", written(t, good, framed(whole, back)), api.ErrForm)
	wantLoad(t, "P16.2", written(t, good, framed(back)), version.Version{Log: 1, Next: 9, Seq: 700}, 3, api.OK)
}

func TestNoFrames(t *testing.T) {
	wantNoLoad(t, "P16.2: a manifest of no frame", written(t, good, ""), api.ErrForm)
	wantNoLoad(t, "P16.2: a manifest of an empty frame", written(t, good, framed("")), api.ErrForm)
	wantLoad(t, "P16.2: a manifest of the none version", written(t, good, framed("\x00\x00\x00\x00\x00")), version.Version{}, 3, api.OK)
	wantLoad(t, "P16.2: one behind the other", written(t, good, framed("\x00\x00\x00\x00\x00", "\x00\x00\x00\x00\x00", "\x00\x02\x02\x00\x00")), version.Version{Next: 1, Seq: 1}, 3, api.OK)
}

// TestManyInAnEdit: an edit with 4096 tables that come, or that go, is read; with one more it is added, and Load is ErrForm.
func TestManyInAnEdit(t *testing.T) {
	for _, n := range []int{4096, 4097, 5000} {
		come := version.Edit{Next: 1 << 20}
		leave := version.Edit{Next: 1 << 20}
		for i := range n {
			come.Add = append(come.Add, version.Place{Level: 0, Meta: version.Meta{File: int64(i)}})
			leave.Drop = append(leave.Drop, int64(i))
		}
		v, want := made(t, come), api.OK
		if n > 4096 {
			want = api.ErrForm
		}
		d := started(t, 3, version.Version{})
		wantError(t, fmt.Sprintf("P16.4: Add of %d that come", n), Add(d, 3, come), api.OK)
		wantMany(t, fmt.Sprintf("P16.4: %d that come", n), d, v, want)
		d = started(t, 3, v)
		wantLoad(t, "P16.1: Start", d, v, 3, api.OK)
		wantError(t, fmt.Sprintf("P16.4: Add of %d that go", n), Add(d, 3, leave), api.OK)
		wantMany(t, fmt.Sprintf("P16.4: %d that go", n), d, version.Version{Next: 1 << 20}, want)
		wantError(t, "P16.1: Add behind it", Add(d, 3, version.Edit{Next: 1 << 20}), api.OK)
		wantMany(t, "P16.4: behind it", d, version.Version{Next: 1 << 20}, want)
	}
}

// wantMany: Load tells the version, or that error.
func wantMany(t *testing.T, what string, d *disk.Disk, v version.Version, want api.Errno) {
	t.Helper()
	if want == api.OK {
		wantLoad(t, what, d, v, 3, api.OK)
		return
	}
	wantNoLoad(t, what, d, want)
}

// TestLoadChangesNothing: Load makes nothing last, and isn't counted as a call that changes.
func TestLoadChangesNothing(t *testing.T) {
	d := elder(t)
	wantOK(t, d.Append("manifest-00000003", framed(version.Put(version.Edit{Log: 8, Next: 11, Seq: 900}))), d.Create("other"))
	d.Cut(1, 0)
	for range 3 {
		wantLoad(t, "P16.2: what is there counts, whether it lasts or not", d, made(t, grown(t).Whole(), version.Edit{Log: 8, Next: 11, Seq: 900}), 3, api.OK)
	}
	wantError(t, "P4.4: the first call that changes", d.SyncDir(), api.ErrPower)
	d.On()
	wantList(t, "P16.2", d, "current", "manifest-00000003")
	wantLoad(t, "P16.2", d, grown(t), 3, api.OK)
}

// TestAnswersAreNew: what Load answers may be changed.
func TestAnswersAreNew(t *testing.T) {
	d := elder(t)
	v, _, _ := Load(d)
	w, _, _ := Load(d)
	for level := range v.Levels {
		for i := range v.Levels[level] {
			v.Levels[level][i] = version.Meta{File: 99, Lo: "x"}
		}
		v.Levels[level] = append(v.Levels[level], version.Meta{File: 98})
	}
	if bytesOf(w) != bytesOf(grown(t)) {
		t.Errorf("rule 4: another answer is %q now", bytesOf(w))
	}
	wantLoad(t, "rule 4", d, grown(t), 3, api.OK)
	d.Spoil("manifest-00000003", 200)
	if bytesOf(w) != bytesOf(grown(t)) {
		t.Errorf("rule 4: an answer is %q now", bytesOf(w))
	}
}
