package store

import (
	"fmt"
	"slices"
	"strings"
	"testing"

	"oxbow/api"
	"oxbow/batch"
	"oxbow/budget"
	"oxbow/disk"
	"oxbow/manifest"
	"oxbow/pick"
	"oxbow/skip"
	"oxbow/table"
	"oxbow/version"
	"oxbow/wal"
)

// The model is the document's words, said once more and apart from the program: all changes that there ever were, and what keys have by them.

// model is what a store is to tell.
type model struct {
	changes []api.Entry // by rising Seqs
	now     int64
	told    int64 // the greatest time that any store of the disk was told
	snaps   []int64
	list    *skip.List // what no table has
	config  Config
	untold  []api.Entry // the items of a Commit that was told by an error
}

func newModel(c Config) *model { return &model{list: skip.New(c.Coins...), config: c} }

func (m *model) seq() int64 { return int64(len(m.changes)) }

// commit: items are changes from now on.
func (m *model) commit(items []api.Entry) {
	n := int64(0)
	for _, x := range items {
		n += 104 + int64(len(x.Key)+len(x.Value))
	}
	if n+m.list.Size() > m.config.Memory {
		m.flush()
	}
	for _, x := range items {
		x.Seq = m.seq() + 1
		m.changes = append(m.changes, x)
		m.list.Put(x)
	}
}

func (m *model) flush() { m.list = skip.New(m.config.Coins...) }

// has: what a key has for who reads up to a number: alive is whether there is something, sure is whether that must be there: it needn't, if it wasn't alive any more at a time that a store was told.
func (m *model) has(key string, seq int64) (x api.Entry, alive, sure bool) {
	for _, x := range slices.Backward(m.changes) {
		if x.Key == key && x.Seq <= seq {
			alive := !x.Gone && (x.Until == 0 || x.Until >= m.now)
			return x, alive, x.Until == 0 || x.Until >= m.told
		}
	}
	return api.Entry{}, false, false
}

// keys: those of all changes, rising.
func (m *model) keys() []string {
	var l []string
	for _, x := range m.changes {
		l = append(l, x.Key)
	}
	slices.Sort(l)
	return slices.Compact(l)
}

// span: what the keys of a span have.
func (m *model) span(from, to string, seq int64) []api.Entry {
	var l []api.Entry
	for _, key := range m.keys() {
		if x, alive, _ := m.has(key, seq); alive && key >= from && (to == "" || key < to) {
			l = append(l, x)
		}
	}
	return l
}

// reopened: another store on the same disk knows neither the time nor snaps.
func (m *model) reopened() {
	m.now, m.snaps = 0, nil
	old := m.list
	m.flush()
	// The towers are built anew, in the order of the changes.
	for _, x := range m.changes {
		if got, is := old.Get(x.Key, x.Seq); is && got.Seq == x.Seq {
			m.list.Put(x)
		}
	}
}

// clone: one that goes on by itself.
func (m *model) clone() *model {
	c := *m
	c.changes, c.snaps = slices.Clone(m.changes), slices.Clone(m.snaps)
	c.list = skip.New(m.config.Coins...)
	for _, x := range c.changes {
		if got, is := m.list.Get(x.Key, x.Seq); is && got.Seq == x.Seq {
			c.list.Put(x)
		}
	}
	return &c
}

// rig is a store with its disk, and what it is to tell.
type rig struct {
	d *disk.Disk
	c Config
	s *Store
	m *model
}

// wide: a configuration in which there is room for all that a test does.
func wide() Config {
	return Config{Limit: 1 << 20, Memory: 1 << 14, Block: 64, Bits: 10, File: 200, Limits: pick.Limits{Zero: 2, Base: 1 << 40, Ratio: 2}}
}

// newRig: a new store on a new disk.
func newRig(t *testing.T, c Config) *rig {
	t.Helper()
	r := &rig{d: disk.New(1 << 20), c: c, m: newModel(c)}
	r.open(t)
	return r
}

func (r *rig) open(t *testing.T) {
	t.Helper()
	s, e := Open(r.d, r.c)
	if e != api.OK {
		t.Fatalf("P17.1: Open is %d", e)
	}
	r.s = s
}

// again: the store is opened anew.
func (r *rig) again(t *testing.T) {
	t.Helper()
	r.m.reopened()
	r.open(t)
}

func (r *rig) commit(t *testing.T, items ...api.Entry) {
	t.Helper()
	r.m.commit(items)
	if seq, e := r.s.Commit(items...); e != api.OK || seq != r.m.seq() {
		t.Fatalf("P17.2: Commit of %d items is %d, %d, not %d, 0", len(items), seq, e, r.m.seq())
	}
}

func (r *rig) flush(t *testing.T) {
	t.Helper()
	r.m.flush()
	wantError(t, "P17.5: Flush", r.s.Flush(), api.OK)
}

func (r *rig) step(t *testing.T) bool {
	t.Helper()
	is, e := r.s.Step()
	wantError(t, "P17.5: Step", e, api.OK)
	return is
}

func (r *rig) now(t int64) {
	r.s.Now(t)
	r.m.now = max(r.m.now, t)
	r.m.told = max(r.m.told, t)
}

func (r *rig) snap(t *testing.T) int64 {
	t.Helper()
	seq := r.s.Snap()
	if seq != r.m.seq() {
		t.Fatalf("P17.4: Snap is %d, not %d", seq, r.m.seq())
	}
	r.m.snaps = append(r.m.snaps, seq)
	return seq
}

// sink: what is in memory becomes a table so far down (1: of level 0, 2: of level 1), with all that stands in the levels on its way.
func (r *rig) sink(t *testing.T, down int) {
	t.Helper()
	for i := range down {
		if i == 0 {
			r.flush(t)
			continue
		}
		// The level above is too full, and no other one is looked at ahead of it.
		r.s.config.Limits = pick.Limits{Zero: 1, Base: 1, Ratio: r.c.Limits.Ratio}
		if i > 1 {
			r.s.config.Limits.Zero = 1 << 30
		}
		for len(r.s.Version().Levels[i-1]) > 0 {
			if !r.step(t) {
				t.Fatalf("P17.5: Step out of level %d is false", i-1)
			}
		}
	}
	r.s.config.Limits = r.c.Limits
}

func put(key, value string) api.Entry { return api.Entry{Key: key, Value: value} }

func till(key, value string, until int64) api.Entry {
	return api.Entry{Key: key, Value: value, Until: until}
}

func gone(key string) api.Entry { return api.Entry{Key: key, Gone: true} }

func wantError(t *testing.T, what string, got, want api.Errno) {
	t.Helper()
	if got != want {
		t.Fatalf("%s is %d, not %d", what, got, want)
	}
}

func wantOK(t *testing.T, l ...api.Errno) {
	t.Helper()
	for i, e := range l {
		if e != api.OK {
			t.Fatalf("call %d ahead of what is tested: %d", i, e)
		}
	}
}

// wantRead: all that is read at Latest and at each snap is as the model tells.
func (r *rig) wantRead(t *testing.T, what string) {
	t.Helper()
	if r.s.Seq() != r.m.seq() {
		t.Fatalf("%s: P17.4: Seq is %d, not %d", what, r.s.Seq(), r.m.seq())
	}
	for _, seq := range append([]int64{Latest}, r.m.snaps...) {
		r.wantReadAt(t, what, seq)
	}
}

func (r *rig) wantReadAt(t *testing.T, what string, seq int64) {
	t.Helper()
	all, e := r.s.Scan("", "", seq, 1<<30)
	wantError(t, what+": P17.3: Scan", e, api.OK)
	r.wantLike(t, fmt.Sprintf("%s: P17.3: Scan at %d", what, seq), all, "", "", seq)
	for _, key := range append(r.m.keys(), "", "no such key", strings.Repeat("k", 65)) {
		x, is, e := r.s.Get(key, seq)
		wantError(t, what+": P17.3: Get", e, api.OK)
		i := slices.IndexFunc(all, func(y api.Entry) bool { return y.Key == key })
		if is != (i >= 0) || is && x != all[i] || !is && x != (api.Entry{}) {
			t.Fatalf("%s: P17.3: Get of %q at %d is %v, %v; all is %v", what, key, seq, x, is, all)
		}
		i = slices.IndexFunc(all, func(y api.Entry) bool { return y.Key >= key })
		x, is, e = r.s.Next(key, "", seq)
		wantError(t, what+": P17.3: Next", e, api.OK)
		if is != (i >= 0) || is && x != all[i] || !is && x != (api.Entry{}) {
			t.Fatalf("%s: P17.3: Next from %q at %d is %v, %v; all is %v", what, key, seq, x, is, all)
		}
	}
}

// wantLike: entries are just what the keys of a span have, but that what needn't be there may be missing.
func (r *rig) wantLike(t *testing.T, what string, got []api.Entry, from, to string, seq int64) {
	t.Helper()
	for _, want := range r.m.span(from, to, seq) {
		switch _, _, sure := r.m.has(want.Key, seq); {
		case len(got) > 0 && got[0] == want:
			got = got[1:]
		case sure:
			t.Fatalf("%s: %v isn't there: %v", what, want, got)
		}
	}
	if len(got) > 0 {
		t.Fatalf("%s: these are there, which nothing has: %v", what, got)
	}
}

// wantHeld: the budget's kinds are what is in memory.
func (r *rig) wantHeld(t *testing.T, what string) {
	t.Helper()
	b := r.s.Budget()
	inCache := int64(0)
	for _, k := range r.s.cache.Kept() {
		data, _ := r.s.cache.Get(k)
		inCache += 64 + int64(len(data))
	}
	if b.Of(budget.Table) != r.m.list.Size() || b.Of(budget.Cache) != inCache || b.Of(budget.Scan) != 0 {
		t.Fatalf("%s: P17.6: Table has %d, not %d, Cache %d, not %d, Scan %d", what, b.Of(budget.Table), r.m.list.Size(), b.Of(budget.Cache), inCache, b.Of(budget.Scan))
	}
	if want := r.m.list.Size() + inCache; r.s.Held() != want || b.Used() != want+b.Of(budget.Engine) || b.High() > max(r.c.Limit, 0) {
		t.Fatalf("%s: P17.6: Held is %d, not %d; Used is %d, High %d of %d", what, r.s.Held(), want, b.Used(), b.High(), r.c.Limit)
	}
}

// wantDisk: on the disk is what Version tells, with a manifest and a log, whose batches are just what no table has, and no other file of these kinds.
func (r *rig) wantDisk(t *testing.T, what string) {
	t.Helper()
	v, n, e := manifest.Load(r.d)
	wantError(t, what+": manifest.Load", e, api.OK)
	if version.Put(v.Whole()) != version.Put(r.s.Version().Whole()) {
		t.Fatalf("%s: P17.6: Version is %v, the disk has %v", what, r.s.Version(), v)
	}
	names := []string{manifest.Current, wal.File("manifest", n), wal.Name(v.Log)}
	for _, file := range v.Files() {
		names = append(names, wal.File("table", file))
	}
	slices.Sort(names)
	if last := append(v.Files(), n, v.Log); slices.Max(last) >= v.Next {
		t.Fatalf("%s: the numbers of files are %v, and the next one is %d", what, last, v.Next)
	}
	if got := r.d.List(); !slices.Equal(got, names) {
		t.Fatalf("%s: P17.1: on the disk are %v, not %v", what, got, names)
	}
	bodies, _, e := wal.Read(r.d, v.Log)
	wantError(t, what+": wal.Read", e, api.OK)
	var logged []api.Entry
	for _, body := range bodies {
		items, e := batch.Get(body)
		wantError(t, what+": batch.Get", e, api.OK)
		logged = append(logged, items...)
	}
	if v.Seq+int64(len(logged)) != r.m.seq() || len(logged) != r.m.list.Len() {
		t.Fatalf("%s: the tables go up to %d, the log has %d, of %d changes; %d are in memory", what, v.Seq, len(logged), r.m.seq(), r.m.list.Len())
	}
	for i, x := range batch.Number(logged, v.Seq+1) {
		if want := r.m.changes[int(v.Seq)+i]; x != want {
			t.Fatalf("%s: the log has %v, not %v", what, x, want)
		}
	}
	r.wantTables(t, what, v)
}

// wantTables: each table has what its Meta tells.
func (r *rig) wantTables(t *testing.T, what string, v version.Version) {
	t.Helper()
	for level, tables := range v.Levels {
		for _, m := range tables {
			s, e := r.d.Read(wal.File("table", m.File))
			wantError(t, what+": Read of a table", e, api.OK)
			o, e := table.Open(func(at, n int) (string, api.Errno) { return s[at : at+n], api.OK }, len(s))
			wantError(t, what+": table.Open", e, api.OK)
			l, e := o.All("")
			wantError(t, what+": All", e, api.OK)
			if len(l) == 0 || int64(len(s)) != m.Size || l[0].Key != m.Lo || l[len(l)-1].Key != m.Hi {
				t.Fatalf("%s: in level %d is %v, which has %d bytes and %v", what, level, m, len(s), l)
			}
			for _, x := range l {
				if x.Seq > v.Seq || x != r.m.changes[x.Seq-1] {
					t.Fatalf("%s: in %v, of changes up to %d, is %v", what, m, v.Seq, x)
				}
			}
		}
	}
}

// wantAll: all that can be told of a store is as it must be.
func (r *rig) wantAll(t *testing.T, what string) {
	t.Helper()
	r.wantHeld(t, what)
	r.wantRead(t, what)
	r.wantHeld(t, what)
	r.wantDisk(t, what)
}

// wantAlone: the store is to be read alone.
func (r *rig) wantAlone(t *testing.T, what string) {
	t.Helper()
	if seq, e := r.s.Commit(put("a", "b")); e != api.ErrClosed || seq != 0 {
		t.Fatalf("%s: P17.7: Commit is %d, %d", what, seq, e)
	}
	wantError(t, what+": P17.7: Flush", r.s.Flush(), api.ErrClosed)
	if is, e := r.s.Step(); e != api.ErrClosed || is {
		t.Fatalf("%s: P17.7: Step is %v, %d", what, is, e)
	}
}
