package manifest

import (
	"fmt"
	"testing"

	"oxbow/api"
	"oxbow/disk"
	"oxbow/version"
)

// TestStartOfOneThatIsThere: a manifest isn't begun anew: the first call is refused, and nothing is done.
func TestStartOfOneThatIsThere(t *testing.T) {
	for _, n := range []int64{2, 3} {
		d := littered(t)
		d.Break(1)
		wantError(t, "P16.1: Start", Start(d, n, wide(t, 5)), api.ErrThere)
		wantUntouched(t, "P16.1: Start of one that is there", d)
		wantLoad(t, "P16.1", d, grown(t), 3, api.OK)
		wantBytes(t, "P16.1", d, "current-next", "current-next")
	}
}

// TestAddToNone: of a manifest that isn't there; others that begin or end so aren't it.
func TestAddToNone(t *testing.T) {
	d := elder(t)
	for _, name := range []string{"manifest-4", "manifest", "table-00000004", "log-00000004", "manifest-00000004x"} {
		wantOK(t, d.Create(name))
	}
	d.Break(1)
	for _, n := range []int64{0, 4, 30, 99999999} {
		wantError(t, "P16.1: Add to none", Add(d, n, more()), api.ErrNone)
	}
	wantUntouched(t, "P16.1: Add to none", d)
}

// TestAddToAnother: Add is to the manifest of its number, whether that counts or not.
func TestAddToAnother(t *testing.T) {
	d := elder(t)
	wantOK(t, Start(d, 5, version.Version{}))
	wantError(t, "P16.1: Add", Add(d, 3, version.Edit{Log: 8, Next: 11, Seq: 900}), api.OK)
	wantLoad(t, "P16.1: Add to the one that counts no more", d, version.Version{}, 5, api.OK)
	wantBytes(t, "P16.1", d, "manifest-00000003", framed(partBodies(few(t))...)+framed(version.Put(more()))+framed(version.Put(version.Edit{Log: 8, Next: 11, Seq: 900})))
	wantOK(t, d.Remove("current"))
	wantError(t, "P16.1: Add without current", Add(d, 5, version.Edit{Next: 3}), api.OK)
	wantNoLoad(t, "P16.2: without current", d, api.ErrNone)
}

// TestRoom: a disk that has room for some of what is to be written: the calls ahead stay done.
func TestRoom(t *testing.T) {
	body, name := framed(partBodies(few(t))...), framed("manifest-00000003")
	size := len(body) + len(name)
	for room := range size + 1 {
		d := disk.New(room)
		what := fmt.Sprintf("P16.1: with room for %d of %d bytes", room, size)
		switch {
		case room < len(body):
			wantError(t, what, Start(d, 3, few(t)), api.ErrFull)
			wantList(t, what, d, "manifest-00000003")
			wantBytes(t, what, d, "manifest-00000003", "")
			d.Crash(0)
			wantList(t, what, d)
		case room < size:
			wantError(t, what, Start(d, 3, few(t)), api.ErrFull)
			wantList(t, what, d, "current-next", "manifest-00000003")
			wantBytes(t, what, d, "manifest-00000003", body)
			d.Crash(0)
			wantList(t, what, d, "manifest-00000003")
			wantBytes(t, what, d, "manifest-00000003", body)
		default:
			wantError(t, what, Start(d, 3, few(t)), api.OK)
			wantLoad(t, what, d, few(t), 3, api.OK)
			wantError(t, what+": Add", Add(d, 3, more()), api.ErrFull)
			wantLoad(t, what, d, few(t), 3, api.OK)
		}
	}
}

// TestMaxFiles: a disk that has as many names as it may have, or a few less.
func TestMaxFiles(t *testing.T) {
	for left := range 4 {
		d := elder(t)
		for i := len(d.List()); i < api.MaxFiles-left; i++ {
			wantOK(t, d.Create(fmt.Sprint(i)))
		}
		what := fmt.Sprintf("P16.1: with %d names left", left)
		if left >= 2 {
			wantError(t, what, Start(d, 4, few(t)), api.OK)
			wantLoad(t, what, d, few(t), 4, api.OK)
			continue
		}
		wantError(t, what, Start(d, 4, few(t)), api.ErrFull)
		wantLoad(t, what, d, grown(t), 3, api.OK)
		if _, e := d.Read("manifest-00000004"); (e == api.OK) != (left == 1) || len(d.List()) != api.MaxFiles {
			t.Errorf("%s: Read of the manifest is %d; there are %d names", what, e, len(d.List()))
		}
	}
}

// TestMaxFile: a version whose parts are more than a file holds, and as many edits as it holds.
func TestMaxFile(t *testing.T) {
	e := version.Edit{Next: 1 << 20}
	for i := range int64(18 * 256) {
		key := fmt.Sprintf("%0120d", i)
		e.Add = append(e.Add, table(1, i, key, key))
	}
	d := elder(t)
	wantError(t, "P16.1: Start of more than MaxFile", Start(d, 4, made(t, e)), api.ErrFull)
	wantBytes(t, "P16.1", d, "manifest-00000004", "")
	wantLoad(t, "P16.1", d, grown(t), 3, api.OK)
	e.Add = e.Add[:9*256]
	v := made(t, e)
	wantError(t, "P16.1: Start", Start(d, 5, v), api.OK)
	wantLoad(t, "P16.2", d, v, 5, api.OK)
	for file := e.Next; ; file++ {
		e := version.Edit{Add: []version.Place{{Level: 0, Meta: version.Meta{File: file, Hi: longText[:65000]}}}, Next: file + 1}
		s, _ := d.Read("manifest-00000005")
		if len(s)+len(framed(version.Put(e))) > api.MaxFile {
			wantError(t, "P16.1: Add above MaxFile", Add(d, 5, e), api.ErrFull)
			break
		}
		wantError(t, "P16.1: Add", Add(d, 5, e), api.OK)
		v = made(t, v.Whole(), e)
	}
	wantLoad(t, "P16.2", d, v, 5, api.OK)
}

// TestNextThere: a current-next that is there already, whatever it has, and whether it lasts, is none that counts.
func TestNextThere(t *testing.T) {
	for _, s := range []string{"", "x", framed("manifest-00000003"), framed("manifest-00000007"), framed("manifest-00000007")[:9]} {
		for _, lasts := range []bool{false, true} {
			d := elder(t)
			wantOK(t, d.Create("current-next"), d.Append("current-next", s))
			if lasts {
				wantOK(t, d.Sync("current-next"), d.SyncDir())
			}
			wantLoad(t, "P16.2: a current-next is nothing to Load", d, grown(t), 3, api.OK)
			wantError(t, "P16.1: Start", Start(d, 5, few(t)), api.OK)
			wantList(t, "P16.1", d, "current", "manifest-00000003", "manifest-00000005")
			wantBytes(t, "P16.1", d, "current", framed("manifest-00000005"))
			d.Crash(0)
			wantList(t, "P16.1", d, "current", "manifest-00000003", "manifest-00000005")
			wantLoad(t, "P16.2", d, few(t), 5, api.OK)
		}
	}
}

// TestOthersDontLast: Add makes no names last, and no other file's bytes.
func TestOthersDontLast(t *testing.T) {
	d := elder(t)
	wantOK(t, d.Append("current", ""), d.Create("other"), Start(d, 5, few(t)), d.Append("other", "x"), d.Create("another"))
	wantOK(t, Add(d, 5, version.Edit{Log: 8, Next: 11, Seq: 900}))
	d.Crash(0)
	wantList(t, "P16.1", d, "current", "manifest-00000003", "manifest-00000005", "other")
	wantBytes(t, "P16.1", d, "other", "")
}
