package store

import (
	"oxbow/api"
	"oxbow/manifest"
	"oxbow/table"
	"oxbow/version"
	"oxbow/wal"
)

// The kinds of files that the store names itself.
const (
	manifestKind = "manifest"
	tableKind    = "table"
)

// mostTold: so many tables a manifest is told of at most, behind its beginning, each edit counted as one more: so its file never comes near to MaxFile by edits, and no edit is too long for a frame.
const mostTold = 256

// tell: the version behind an edit is the one that counts on the disk: by the edit, or, where that can't be told of any more, by a new manifest.
func (s *Store) tell(edit version.Edit) (version.Version, api.Errno) {
	v, e := s.version.Apply(edit)
	if e != api.OK {
		return version.Version{}, e
	}
	size := 1 + len(edit.Add) + len(edit.Drop)
	if size <= s.left {
		s.left -= size
		return v, manifest.Add(s.disk, s.manifest, edit)
	}
	n := s.version.Next
	e = manifest.Start(s.disk, n, v)
	if e == api.OK {
		s.manifest, s.left = n, mostTold
	}
	return v, e
}

// clean: what that version doesn't need is gone from the disk.
func (s *Store) clean(v version.Version) api.Errno { return manifest.Clean(s.disk, s.manifest, v) }

// write: entries become a table of a number, whose bytes last.
func (s *Store) write(n int64, entries []api.Entry) (version.Meta, api.Errno) {
	data, e := s.build(entries)
	if e != api.OK {
		return version.Meta{}, e
	}
	name := wal.File(tableKind, n)
	if e := s.disk.Create(name); e != api.OK {
		return version.Meta{}, e
	}
	if e := s.disk.Append(name, data); e != api.OK {
		return version.Meta{}, e
	}
	if e := s.disk.Sync(name); e != api.OK {
		return version.Meta{}, e
	}
	return version.Meta{File: n, Size: int64(len(data)), Lo: entries[0].Key, Hi: entries[len(entries)-1].Key}, api.OK
}

// build: the bytes of a table. Of small blocks there may be more than an index has room for: then they are made larger.
func (s *Store) build(entries []api.Entry) (string, api.Errno) {
	size := s.config.Block
	for {
		data, e := table.Build(entries, size, s.config.Bits)
		if e != api.ErrLong || size == mostBlock {
			return data, e
		}
		size = min(2*size, mostBlock)
	}
}
