package store

import (
	"slices"

	"oxbow/api"
	"oxbow/block"
	"oxbow/cache"
	"oxbow/table"
	"oxbow/version"
	"oxbow/wal"
)

// endBlock: what stands behind a table's blocks is kept in the cache as if it were a block of this number.
const endBlock = -1

// opened is a table that a call reads.
type opened struct {
	*table.Table
	file  int64
	spans []table.Span
}

// source: where a table's bytes come from: of those at its end from what of them is known already, else from the disk.
func (s *Store) source(m version.Meta, end string) table.Source {
	name, known := wal.File(tableKind, m.File), int(m.Size)-len(end)
	return func(at, n int) (string, api.Errno) {
		if at >= known && n <= int(m.Size)-at {
			return end[at-known:][:n], api.OK
		}
		return s.disk.Part(name, at, n)
	}
}

// table: a table, whose end is kept in the cache, if there is room for it.
func (s *Store) table(m version.Meta) (opened, api.Errno) {
	k := cache.Key{File: m.File, Block: endBlock}
	end, is := s.cache.Get(k)
	src := s.source(m, end)
	t, e := table.Open(src, int(m.Size))
	if e != api.OK {
		return opened{}, e
	}
	o := opened{t, m.File, t.Spans()}
	if is {
		return o, api.OK
	}
	at := o.size()
	end, e = src(at, int(m.Size)-at)
	if e == api.OK {
		s.cache.Put(k, end)
	}
	return o, e
}

// size: how many bytes all blocks have.
func (o opened) size() int {
	if len(o.spans) == 0 {
		return 0
	}
	last := o.spans[len(o.spans)-1]
	return last.At + last.N
}

// block: the bytes of a block, which is kept in the cache, if there is room for it. What is damaged isn't.
func (s *Store) block(o opened, i int) (string, api.Errno) {
	k := cache.Key{File: o.file, Block: i}
	if body, is := s.cache.Get(k); is {
		return body, api.OK
	}
	body, e := o.Block(i)
	if e == api.OK {
		s.cache.Put(k, body)
	}
	return body, e
}

// newestIn: a key's newest entry in a table that is read.
func (r *reading) newestIn(m version.Meta, key string) (api.Entry, bool, api.Errno) {
	o, e := r.table(m)
	if e != api.OK || !o.May(key) {
		return api.Entry{}, false, e
	}
	for i := o.Which(key); i < len(o.spans); i++ {
		body, e := r.block(o, i)
		if e != api.OK {
			return api.Entry{}, false, e
		}
		x, is, e := block.Find(body, key, r.upTo)
		// The next block goes on with this key, if this one ends with it.
		if is || e != api.OK || o.spans[i].Last != key {
			return x, is, e
		}
	}
	return api.Entry{}, false, api.OK
}

// blocks: a table's entries from a key on, block by block. Nothing is read ahead of the first call.
func (r *reading) blocks(m version.Meta, from string) source {
	var o opened
	next := 0
	return func() ([]api.Entry, api.Errno) {
		if o.Table == nil {
			t, e := r.table(m)
			if e != api.OK {
				return nil, e
			}
			o, next = t, t.Which(from)
		}
		for next < len(o.spans) {
			body, e := r.block(o, next)
			if e != api.OK {
				return nil, e
			}
			entries, e := block.Parse(body)
			if e != api.OK {
				return nil, e
			}
			next++
			entries = slices.DeleteFunc(entries, func(x api.Entry) bool { return x.Key < from })
			if len(entries) > 0 {
				return entries, api.OK
			}
		}
		return nil, api.OK
	}
}

// all: all entries of a table, which are in memory till the call ends. They don't go through the cache: whoever wants all of a table wants it once.
func (r *reading) all(m version.Meta) ([]api.Entry, api.Errno) {
	t, e := table.Open(r.source(m, ""), int(m.Size))
	if e != api.OK {
		return nil, e
	}
	l, e := t.All("")
	if e != api.OK {
		return nil, e
	}
	for _, x := range l {
		if e := r.hold(x); e != api.OK {
			return nil, e
		}
	}
	return l, api.OK
}
