package store

import (
	"slices"

	"oxbow/api"
	"oxbow/merge"
	"oxbow/pick"
	"oxbow/version"
)

const (
	// mostPart: however large the tables may be, so many bytes are enough for one that Step makes, and fit into a file.
	mostPart = 1 << 17
	// mostParts: into about so many tables of Step's all that there is may be cut, however small they may be, so that a disk has names for them.
	mostParts = 1024
	// partBytes: about so many bytes an entry has in a table beside its key and its value.
	partBytes = 8
)

// Step: tables are merged, if a level is full.
func (s *Store) Step() (bool, api.Errno) {
	if e := s.changeable(); e != api.OK {
		return false, e
	}
	job, is := pick.Pick(s.version, s.config.Limits, s.cursors)
	if !is {
		return false, api.OK
	}
	r := s.read(Latest)
	defer r.end()
	e := r.noted(r.step(job))
	return e == api.OK, e
}

// step: the tables of a job are merged into the level below.
func (r *reading) step(job pick.Job) api.Errno {
	from := metas(r.version.Levels[job.Level], job.From)
	entries, e := r.merged(append(from, metas(r.version.Levels[job.Level+1], job.To)...), job.Bottom)
	if e != api.OK {
		return e
	}
	edit, e := r.writeParts(job.Level+1, entries)
	if e != api.OK {
		return e
	}
	edit.Drop = slices.Concat(job.From, job.To)
	v, e := r.tell(edit)
	if e != api.OK {
		return e
	}
	// From here on the tables that were merged may be gone, so that only the new ones can be read.
	r.version, r.cursors[job.Level] = v, from[0].Lo
	for _, file := range edit.Drop {
		r.cache.Drop(file)
	}
	return r.clean(v)
}

// metas: those of the tables that are such files.
func metas(tables []version.Meta, files []int64) []version.Meta {
	var l []version.Meta
	for _, m := range tables {
		if slices.Contains(files, m.File) {
			l = append(l, m)
		}
	}
	return l
}

// merged: what somebody may still need of tables' entries, in order.
func (r *reading) merged(tables []version.Meta, bottom bool) ([]api.Entry, api.Errno) {
	var lists [][]api.Entry
	for _, m := range tables {
		l, e := r.all(m)
		if e != api.OK {
			return nil, e
		}
		lists = append(lists, l)
	}
	return merge.Compact(merge.Merge(lists...), r.snaps, r.now, bottom), api.OK
}

// writeParts: entries become tables of a level, which last; what is answered is the edit by which they come.
func (s *Store) writeParts(level int, entries []api.Entry) (version.Edit, api.Errno) {
	v := s.version
	// Also where nothing is left a number is taken, as a new manifest may need one.
	edit := version.Edit{Log: v.Log, Next: v.Next + 1, Seq: v.Seq}
	for i, part := range s.parts(entries) {
		m, e := s.write(v.Next+int64(i), part)
		if e != api.OK {
			return version.Edit{}, e
		}
		edit.Add = append(edit.Add, version.Place{Level: level, Meta: m})
		edit.Next = m.File + 1
	}
	return edit, s.disk.SyncDir()
}

// parts: entries in order, cut into those of tables. All of one key are in one table, as tables of a level have no key in common.
func (s *Store) parts(entries []api.Entry) [][]api.Entry {
	most := s.partSize()
	var l [][]api.Entry
	from, size := 0, int64(0)
	for i, x := range entries {
		if size >= most && x.Key != entries[i-1].Key {
			l = append(l, entries[from:i])
			from, size = i, 0
		}
		size += int64(partBytes + len(x.Key) + len(x.Value))
	}
	if from < len(entries) {
		l = append(l, entries[from:])
	}
	return l
}

// partSize: a part has about so many bytes.
func (s *Store) partSize() int64 {
	all := int64(0)
	for _, tables := range s.version.Levels {
		for _, m := range tables {
			all += m.Size
		}
	}
	return min(max(s.config.File, all/mostParts), mostPart)
}
