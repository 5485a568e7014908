package store

import (
	"oxbow/api"
	"oxbow/budget"
	"oxbow/merge"
)

// entryBytes: so many bytes an entry holds beside its key and its value, where it stands in no tower.
const entryBytes = 40

// Get: what a key has.
func (s *Store) Get(key string, seq int64) (api.Entry, bool, api.Errno) {
	if e := s.usable(); e != api.OK {
		return api.Entry{}, false, e
	}
	r := s.read(seq)
	defer r.end()
	x, is, e := r.newest(key)
	if e != api.OK || !is || !merge.Alive(x, r.now) {
		return api.Entry{}, false, r.noted(e)
	}
	return x, true, api.OK
}

// Scan: what the keys of a span have.
func (s *Store) Scan(from, to string, seq int64, most int) ([]api.Entry, api.Errno) {
	if e := s.usable(); e != api.OK {
		return nil, e
	}
	r := s.read(seq)
	defer r.end()
	w := r.walk(from, to)
	var l []api.Entry
	for len(l) < most {
		x, is, e := w.next()
		if e == api.OK && is {
			e = r.hold(x)
		}
		if e != api.OK {
			return nil, r.noted(e)
		}
		if !is {
			break
		}
		l = append(l, x)
	}
	return l, api.OK
}

// Next: the first key of a span that has something.
func (s *Store) Next(from, to string, seq int64) (api.Entry, bool, api.Errno) {
	if e := s.usable(); e != api.OK {
		return api.Entry{}, false, e
	}
	r := s.read(seq)
	defer r.end()
	x, is, e := r.walk(from, to).next()
	return x, is, r.noted(e)
}

// reading is a store while a call reads up to a number in it.
type reading struct {
	*Store
	upTo int64
	held int64 // how many bytes of entries are in memory as long as the call goes on
}

// read: a call begins to read.
func (s *Store) read(upTo int64) *reading { return &reading{Store: s, upTo: upTo} }

// end: it keeps nothing.
func (r *reading) end() { r.budget.Release(budget.Scan, r.held) }

// hold: an entry is in memory till the call ends, if it fits there; blocks of the cache give way to it.
func (r *reading) hold(x api.Entry) api.Errno {
	n := int64(entryBytes + len(x.Key) + len(x.Value))
	r.cache.Shrink(n)
	e := r.budget.Reserve(budget.Scan, n)
	if e == api.OK {
		r.held += n
	}
	return e
}

// newest: a key's newest entry that is read, alive or not. What stands in the list is newer than what stands in tables, and what stands in a level than what stands further down; in level 0 the tables stand by falling age, and elsewhere one alone has the key.
func (r *reading) newest(key string) (api.Entry, bool, api.Errno) {
	if x, is := r.list.Get(key, r.upTo); is {
		return x, true, api.OK
	}
	for level := range r.version.Levels {
		for _, m := range r.version.Over(level, key, key) {
			if x, is, e := r.newestIn(m, key); is || e != api.OK {
				return x, is, e
			}
		}
	}
	return api.Entry{}, false, api.OK
}
