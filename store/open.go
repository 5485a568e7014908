package store

import (
	"slices"

	"oxbow/api"
	"oxbow/batch"
	"oxbow/budget"
	"oxbow/cache"
	"oxbow/disk"
	"oxbow/manifest"
	"oxbow/skip"
	"oxbow/version"
	"oxbow/wal"
)

const (
	// firstFile: the number of a new store's first log and manifest.
	firstFile = 1
	// noFile: no file has this number.
	noFile = -1
)

// Open: the store on a disk.
func Open(d *disk.Disk, c Config) (*Store, api.Errno) {
	switch {
	case d == nil:
		return nil, api.ErrNil
	case !c.Good():
		return nil, api.ErrArg
	}
	c.Coins = slices.Clone(c.Coins)
	b := budget.New(c.Limit)
	s := &Store{disk: d, config: c, budget: b, cache: cache.New(b), list: skip.New(c.Coins...)}
	if e := s.find(); e != api.OK {
		return nil, e
	}
	return s, api.OK
}

// find: the store becomes the one that is on the disk, or a new one.
func (s *Store) find() api.Errno {
	if isNew(s.disk) {
		return s.begin()
	}
	v, n, e := manifest.Load(s.disk)
	if e != api.OK {
		return e
	}
	entries, cut, e := logged(s.disk, v)
	if e != api.OK {
		return e
	}
	if e := settle(s.disk, n, v); e != api.OK {
		return e
	}
	s.version, s.manifest, s.cut, s.seq = v, n, cut, v.Seq
	// No manifest has a number from Next on, whatever was told of the tables alone.
	s.version.Next = max(v.Next, n+1)
	return s.put(entries)
}

// begin: a new store comes onto the disk.
func (s *Store) begin() api.Errno {
	v := version.Version{Log: firstFile, Next: firstFile + 1}
	e := sweep(s.disk)
	if e == api.OK {
		e = wal.Create(s.disk, v.Log)
	}
	if e == api.OK {
		e = manifest.Start(s.disk, firstFile, v)
	}
	if e != api.OK {
		// It may be that nothing can be removed either: the next one who opens the store does it then.
		sweep(s.disk)
		return e
	}
	s.version, s.manifest, s.left = v, firstFile, mostTold
	return api.OK
}

// isNew: has the disk no store yet?
func isNew(d *disk.Disk) bool { return !slices.Contains(d.List(), manifest.Current) }

// sweep: what is left of a store that didn't come about is gone.
func sweep(d *disk.Disk) api.Errno {
	if !isNew(d) {
		return api.OK
	}
	return manifest.Clean(d, noFile, version.Version{Log: noFile})
}

// logged: the entries that no table has, by rising Seqs; and whether the log is cut off behind them.
func logged(d *disk.Disk, v version.Version) ([]api.Entry, bool, api.Errno) {
	bodies, cut, e := wal.Read(d, v.Log)
	if e != api.OK {
		return nil, false, e
	}
	var all []api.Entry
	for _, body := range bodies {
		items, e := batch.Get(body)
		if e != api.OK {
			return nil, false, e
		}
		all = append(all, items...)
	}
	return batch.Number(all, v.Seq+1), cut, api.OK
}

// settle: what counts lasts, and nothing else is left. Whoever wrote it may have been refused ahead of that: then it is there, but a loss of power would take it away again, behind what is built on it.
func settle(d *disk.Disk, n int64, v version.Version) api.Errno {
	if e := d.Sync(wal.File(manifestKind, n)); e != api.OK {
		return e
	}
	if e := d.Sync(wal.Name(v.Log)); e != api.OK {
		return e
	}
	if e := d.SyncDir(); e != api.OK {
		return e
	}
	return manifest.Clean(d, n, v)
}
