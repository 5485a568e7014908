package store

import (
	"fmt"
	"slices"
	"strings"
	"testing"

	"oxbow/api"
	"oxbow/budget"
	"oxbow/disk"
	"oxbow/manifest"
	"oxbow/version"
	"oxbow/wal"
)

// wantNoOpen: Open tells this error, and no store.
func wantNoOpen(t *testing.T, what string, d *disk.Disk, c Config, want api.Errno) {
	t.Helper()
	if s, e := Open(d, c); e != want || s != nil {
		t.Fatalf("%s: P17.1: Open is %v, %d, not %d", what, s, e, want)
	}
}

// fingerprint: all that is on a disk.
func fingerprint(d *disk.Disk) string {
	var b strings.Builder
	for _, name := range d.List() {
		s, _ := d.Read(name)
		fmt.Fprintf(&b, "%s %d %x\n", name, len(s), s)
	}
	return b.String()
}

// TestOpenOfNothing: a nil disk is told ahead of a configuration that isn't good, and this one ahead of all that the disk has.
func TestOpenOfNothing(t *testing.T) {
	wantNoOpen(t, "a nil disk", nil, wide(), api.ErrNil)
	r := atLevel(t, 1, put("a", "b"))
	off, broken := disk.New(100), disk.New(100)
	off.Cut(1, 0)
	off.SyncDir()
	wantOK(t, broken.Create(manifest.Current))
	for _, c := range append(badConfigs(), Config{}) {
		wantNoOpen(t, "a nil disk and a bad configuration", nil, c, api.ErrNil)
		for _, d := range []*disk.Disk{disk.New(1000), disk.New(0), off, broken, r.d} {
			was := fingerprint(d)
			wantNoOpen(t, "a bad configuration", d, c, api.ErrArg)
			if fingerprint(d) != was {
				t.Fatalf("P17.1: Open with a bad configuration changes the disk")
			}
		}
	}
	wantNoOpen(t, "a disk without power", off, wide(), api.ErrPower)
	r.wantAll(t, "behind Opens that were refused")
}

// TestOpenNew: of an empty disk, and of one with files that are somebody else's.
func TestOpenNew(t *testing.T) {
	for _, others := range [][]string{nil, {"a"}, {"log", "log-1", "manifest-0000001x", "table", "tables-00000001", "zzz"}} {
		d := disk.New(10000)
		for _, name := range others {
			wantOK(t, d.Create(name), d.Append(name, name))
		}
		s, e := Open(d, wide())
		wantError(t, "P17.1: Open", e, api.OK)
		if s.Seq() != 0 || s.Held() != 0 || s.Budget().Used() != 0 || len(s.Version().Files()) != 0 {
			t.Errorf("P17.1: a new store has %d, %d, %v", s.Seq(), s.Held(), s.Version())
		}
		if l, e := s.Scan("", "", Latest, 100); len(l) > 0 || e != api.OK {
			t.Errorf("P17.1: a new store has %v, %d", l, e)
		}
		v, n, e := manifest.Load(d)
		wantError(t, "P17.1: manifest.Load", e, api.OK)
		want := append(slices.Clone(others), manifest.Current, wal.Name(v.Log), wal.File("manifest", n))
		slices.Sort(want)
		if got := d.List(); !slices.Equal(got, want) {
			t.Errorf("P17.1: on the disk of a new store are %v, not %v", got, want)
		}
	}
}

// TestOpenNoRoom: a disk that hasn't room for a store has no part of one.
func TestOpenNoRoom(t *testing.T) {
	d := disk.New(1 << 20)
	if _, e := Open(d, wide()); e != api.OK {
		t.Fatalf("P17.1: Open is %d", e)
	}
	for room := range d.Used() {
		d := disk.New(room)
		wantNoOpen(t, "too little room", d, wide(), api.ErrFull)
		if l := d.List(); len(l) > 0 {
			t.Fatalf("P17.1: with room for %d bytes there is left %v", room, l)
		}
	}
	d = disk.New(d.Used())
	for left := range 5 {
		full := disk.New(1 << 20)
		for i := range api.MaxFiles - left {
			wantOK(t, full.Create(fmt.Sprint(i)))
		}
		s, e := Open(full, wide())
		if (e == api.OK) != (left >= 3) || (s == nil) != (left < 3) || e != api.OK && len(full.List()) != api.MaxFiles-left {
			t.Errorf("P17.1: with %d names left Open is %d; %d names are left", left, e, api.MaxFiles-len(full.List()))
		}
	}
	if _, e := Open(d, wide()); e != api.OK {
		t.Errorf("P17.1: with just enough room Open is %d", e)
	}
}

// needless are names of files that don't count, on a disk whose store has none of these.
var needless = []string{"current-next", "log-00000000", "log-00000077", "log-99999999", "manifest-00000000", "manifest-00000077", "manifest-99999999", "table-00000000", "table-00000077", "table-99999999"}

func litter(t *testing.T, d *disk.Disk, names ...string) {
	t.Helper()
	for _, name := range names {
		wantOK(t, d.Create(name), d.Append(name, name), d.Sync(name))
	}
	wantOK(t, d.SyncDir())
}

// TestOpenLittered: files of the three kinds that don't count are gone, and other ones aren't; numbers go on as if they hadn't been there.
func TestOpenLittered(t *testing.T) {
	d := disk.New(10000)
	litter(t, d, append(needless, "manifest-00000001", "log-00000001", "table-00000001", "other", "log-000000011")...)
	s, e := Open(d, wide())
	wantError(t, "P17.1: Open of a new store", e, api.OK)
	r := &rig{d: d, c: wide(), s: s, m: newModel(wide())}
	wantOK(t, d.Remove("other"), d.Remove("log-000000011"))
	r.wantAll(t, "P17.1: a new store on a littered disk")
	for i := range 6 {
		r.commit(t, put("a", fmt.Sprint(i)), put(fmt.Sprint(i), ""))
		r.flush(t)
		r.step(t)
		r.commit(t, gone("a"))
		n := r.s.Version().Next
		litter(t, r.d, needless...)
		// What a Flush, or a Step, that comes to no end leaves.
		litter(t, r.d, wal.Name(n), wal.File("table", n), wal.File("manifest", n))
		r.again(t)
		r.wantAll(t, "P17.1: a store on a littered disk")
	}
}

// TestOpenLimit: what the log has must fit into the Limit, whatever the Memory is; where it doesn't, what doesn't count is gone all the same, and nothing else.
func TestOpenLimit(t *testing.T) {
	for _, flushed := range []bool{false, true} {
		r := newRig(t, wide())
		r.commit(t, put("x", "y"))
		if flushed {
			r.flush(t)
		}
		for i := range 20 {
			r.commit(t, put(fmt.Sprint(i), "value"))
		}
		size, was := r.m.list.Size(), fingerprint(r.d)
		for _, limit := range []int64{-1, 0, 1, size / 2, size - 1} {
			c := wide()
			c.Limit = limit
			litter(t, r.d, needless...)
			wantNoOpen(t, "a log that doesn't fit into the Limit", r.d, c, api.ErrBudget)
			if fingerprint(r.d) != was {
				t.Fatalf("P17.1: behind an Open that is ErrBudget there are %v", r.d.List())
			}
			litter(t, r.d, needless...)
			r.d.Break(5)
			wantNoOpen(t, "an error of the disk is told ahead of ErrBudget", r.d, c, api.ErrFull)
			wantNoOpen(t, "a log that doesn't fit into the Limit", r.d, c, api.ErrBudget)
		}
		r.c.Limit, r.c.Memory, r.m.config.Memory = size, 1, 1
		r.again(t)
		r.wantHeld(t, "P17.1: a log that just fits")
		if _, e := r.s.Commit(put("a", "b")); e != api.ErrBudget {
			t.Errorf("P17.2: Commit above the Memory is %d", e)
		}
		r.c.Limit, r.c.Memory, r.m.config.Memory = size+5000, 120, 120
		r.again(t)
		r.wantAll(t, "P17.1: a log above the Memory")
		tables := len(r.s.Version().Files())
		r.commit(t, put("a", "b"))
		r.wantAll(t, "P17.2: what was above the Memory is made a table first")
		if len(r.s.Version().Files()) != tables+1 {
			t.Errorf("P17.2: there are the tables %v", r.s.Version().Files())
		}
	}
}

// spoiltAll: what Open tells with each bit of a file turned.
func spoiltAll(t *testing.T, r *rig, name string, wants ...api.Errno) {
	t.Helper()
	s, e := r.d.Read(name)
	wantError(t, "Read of "+name, e, api.OK)
	for bit := range 8 * len(s) {
		r.d.Spoil(name, bit)
		was := fingerprint(r.d)
		got, e := Open(r.d, r.c)
		if !slices.Contains(wants, e) || got != nil {
			t.Fatalf("P17.1: with the bit %d of %s turned Open is %d, not one of %v", bit, name, e, wants)
		}
		if fingerprint(r.d) != was {
			t.Fatalf("P17.1: with the bit %d of %s turned Open changes the disk", bit, name)
		}
		r.d.Spoil(name, bit)
	}
	r.again(t)
	r.wantAll(t, "P17.1: the bits of "+name+" are turned back")
}

// TestOpenSpoilt: a bit of `current`, of the manifest, or of the log is turned.
func TestOpenSpoilt(t *testing.T) {
	r := newRig(t, wide())
	r.commit(t, put("a", "1"), put("b", "1"))
	r.flush(t)
	r.step(t)
	r.commit(t, put("a", "2"))
	r.commit(t, gone("b"), put("c", "3"))
	_, n, e := manifest.Load(r.d)
	wantError(t, "manifest.Load", e, api.OK)
	spoiltAll(t, r, manifest.Current, api.ErrSum)
	spoiltAll(t, r, wal.File("manifest", n), api.ErrSum)
	spoiltAll(t, r, wal.Name(r.s.Version().Log), api.ErrSum)
}

// TestOpenMissing: what `current`, or the manifest, names isn't there: it is no new store.
func TestOpenMissing(t *testing.T) {
	for _, flushed := range []bool{false, true} {
		r := newRig(t, wide())
		r.commit(t, put("a", "1"))
		if flushed {
			r.flush(t)
		}
		_, n, _ := manifest.Load(r.d)
		for _, name := range []string{wal.File("manifest", n), wal.Name(r.s.Version().Log)} {
			wantOK(t, r.d.Rename(name, "away"))
			was := fingerprint(r.d)
			wantNoOpen(t, name+" isn't there", r.d, r.c, api.ErrNone)
			if fingerprint(r.d) != was {
				t.Fatalf("P17.1: an Open that is refused changes the disk")
			}
			wantOK(t, r.d.Rename("away", name))
		}
		r.again(t)
		r.wantAll(t, "P17.1: all is there again")
	}
}

// TestOpenForm: a log whose bodies aren't batches, a manifest that tells no version, a current that names no manifest.
func TestOpenForm(t *testing.T) {
	for body, want := range map[string]api.Errno{"": api.ErrShort, "\x02": api.ErrShort, "\x00x": api.ErrForm, "\x01": api.ErrForm, "\x84\x01": api.ErrLong, "\x02\x00\x00": api.ErrArg} {
		r := newRig(t, wide())
		r.commit(t, put("a", "1"))
		wantOK(t, wal.Append(r.d, r.s.Version().Log, body))
		wantNoOpen(t, fmt.Sprintf("a log with the body %x", body), r.d, r.c, want)
	}
	r := newRig(t, wide())
	_, n, _ := manifest.Load(r.d)
	wantOK(t, manifest.Add(r.d, n, version.Edit{Drop: []int64{7}, Log: 1, Next: 9}))
	wantNoOpen(t, "a manifest that drops what isn't there", r.d, r.c, api.ErrForm)
	d := disk.New(1000)
	wantOK(t, d.Create(manifest.Current))
	wantNoOpen(t, "an empty current", d, wide(), api.ErrSum)
	// A body without items is no change; so many Seqs there can't be.
	r = newRig(t, wide())
	wantOK(t, wal.Append(r.d, r.s.Version().Log, "\x00"))
	r.again(t)
	r.wantRead(t, "P17.1: a log with an empty body")
	d = disk.New(1000)
	wantOK(t, wal.Create(d, 1), manifest.Start(d, 3, version.Version{Log: 1, Next: 2, Seq: 1<<63 - 1}), wal.Append(d, 1, "\x02\x02a\x02\x00"))
	wantNoOpen(t, "a Seq above all", d, wide(), api.ErrArg)
}

// TestOpenOthers: a store that was begun by the layers below alone, whose numbers are other than those that a store would choose.
func TestOpenOthers(t *testing.T) {
	for _, n := range []int64{0, 1, 2, 3, 40} {
		d := disk.New(10000)
		wantOK(t, wal.Create(d, 0), manifest.Start(d, n, version.Version{Log: 0, Next: 2, Seq: 5}))
		c := wide()
		s, e := Open(d, c)
		wantError(t, "P17.1: Open", e, api.OK)
		if s.Seq() != 5 {
			t.Fatalf("P17.4: Seq is %d", s.Seq())
		}
		for i := range 10 {
			seq, e := s.Commit(put(fmt.Sprint(i), "x"))
			if e != api.OK || seq != int64(6+i) {
				t.Fatalf("P17.2: Commit is %d, %d", seq, e)
			}
			wantError(t, "P17.5: Flush", s.Flush(), api.OK)
		}
		s, e = Open(d, c)
		wantError(t, "P17.1: Open", e, api.OK)
		if l, e := s.Scan("", "", Latest, 100); e != api.OK || len(l) != 10 {
			t.Errorf("P17.3: Scan is %v, %d", l, e)
		}
	}
}

// TestOpenNotRead: Open reads no table, so that what others have can be read where one is damaged.
func TestOpenNotRead(t *testing.T) {
	r := atLevel(t, 1, put("a", "1"))
	r.commit(t, put("b", "2"))
	r.flush(t)
	r.commit(t, put("c", "3"))
	file := r.s.Version().Levels[0][1].File
	wantOK(t, r.d.Remove(wal.File("table", file)))
	r.m.reopened()
	r.open(t)
	for key, want := range map[string]api.Errno{"a": api.ErrNone, "b": api.OK, "c": api.OK} {
		if x, is, e := r.s.Get(key, Latest); e != want || is != (e == api.OK) || is && x.Key != key {
			t.Errorf("P17.7: Get of %q is %v, %v, %d", key, x, is, e)
		}
	}
	r.wantAlone(t, "a table that isn't there")
}

// TestOpenAgain: as often as it is opened a store holds what its log has, and takes no further room on the disk.
func TestOpenAgain(t *testing.T) {
	r := newRig(t, wide())
	for i := range 10 {
		r.commit(t, put(fmt.Sprint(i), strings.Repeat("v", i)), gone("x"))
	}
	r.flush(t)
	r.commit(t, put("3", "new"), gone("4"))
	was := fingerprint(r.d)
	for range 20 {
		r.again(t)
		r.wantAll(t, "P17.1: opened again")
		if got := fingerprint(r.d); got != was {
			t.Fatalf("P17.1: opened again a store is %s, not %s", got, was)
		}
		if r.s.Held() < r.m.list.Size() || r.s.Budget().Of(budget.Table) != r.m.list.Size() {
			t.Fatalf("P17.6: Held is %d", r.s.Held())
		}
	}
}

// TestOpenFull: a store on a disk that has no room left is opened, and all that was told is there.
func TestOpenFull(t *testing.T) {
	for _, room := range []int{200, 333, 500, 800, 1500, 2500} {
		c := wide()
		c.Memory = 400
		r := &rig{d: disk.New(room), c: c, m: newModel(c)}
		r.open(t)
		for i := 0; ; i++ {
			items := []api.Entry{put(fmt.Sprint(i%7), strings.Repeat("v", i%50))}
			_, e := r.s.Commit(items...)
			if e != api.OK {
				wantError(t, "P17.2: Commit on a full disk", e, api.ErrFull)
				r.m.untold = items
				break
			}
			r.m.commit(items)
		}
		r.wantAlone(t, "a full disk")
		for range 3 {
			r.m.reopened()
			r.open(t)
			r.recover(t)
		}
	}
}
