package store

import (
	"cmp"
	"slices"

	"oxbow/api"
	"oxbow/batch"
	"oxbow/budget"
	"oxbow/skip"
	"oxbow/version"
	"oxbow/wal"
)

// itemBytes: so many bytes an item may hold in the list at most, beside its key and its value.
const itemBytes = 104

// Commit: changes are made together.
func (s *Store) Commit(items ...api.Entry) (int64, api.Errno) {
	if e := s.changeable(); e != api.OK {
		return 0, e
	}
	body, e := batch.Put(items)
	if e != api.OK || len(items) == 0 {
		return 0, e
	}
	if e := s.noted(s.commit(items, body)); e != api.OK {
		return 0, e
	}
	return s.seq, api.OK
}

// Flush: what is in memory becomes a table.
func (s *Store) Flush() api.Errno {
	if e := s.changeable(); e != api.OK {
		return e
	}
	return s.noted(s.flush())
}

// commit: changes, whose bytes are the body, are made.
func (s *Store) commit(items []api.Entry, body string) api.Errno {
	if e := s.makeRoom(itemBytes*int64(len(items)) + int64(batch.Size(items))); e != api.OK {
		return e
	}
	if s.cut {
		if e := s.renew(); e != api.OK {
			return e
		}
	}
	if e := wal.Append(s.disk, s.version.Log, body); e != api.OK {
		return e
	}
	return s.put(batch.Number(items, s.seq+1))
}

// makeRoom: the list may take so many bytes more. Blocks of the cache give way to them now, as what stands in the log can't be refused any more.
func (s *Store) makeRoom(n int64) api.Errno {
	room := min(s.config.Memory, s.budget.Used()+s.budget.Left()-s.budget.Of(budget.Engine))
	if n > room {
		return api.ErrBudget
	}
	if n > room-s.list.Size() {
		if e := s.flush(); e != api.OK {
			return e
		}
	}
	if !s.cache.Shrink(n) {
		return api.ErrBudget
	}
	return api.OK
}

// put: entries that stand in the log stand in memory too, in the order of their Seqs.
func (s *Store) put(entries []api.Entry) api.Errno {
	for _, x := range entries {
		if e := s.budget.Reserve(budget.Table, s.list.Cost(x)); e != api.OK {
			return e
		}
		if e := s.list.Put(x); e != api.OK {
			return e
		}
		s.seq = x.Seq
	}
	return api.OK
}

// flush: the list becomes a table, and a new log begins. The store isn't changed ahead of all calls of the disk: where one is refused the list still has what may be in no table.
func (s *Store) flush() api.Errno {
	if s.list.Len() == 0 {
		return api.OK
	}
	n := s.version.Next
	m, e := s.write(n, slices.Collect(s.list.From("")))
	if e != api.OK {
		return e
	}
	// With the log's name that of the table lasts too.
	if e := wal.Create(s.disk, n); e != api.OK {
		return e
	}
	v, e := s.tell(version.Edit{Add: []version.Place{{Level: 0, Meta: m}}, Log: n, Next: n + 1, Seq: s.seq})
	if e != api.OK {
		return e
	}
	if e := s.clean(v); e != api.OK {
		return e
	}
	s.version, s.cut = v, false
	s.list = skip.New(s.config.Coins...)
	return s.budget.Change(budget.Table, 0)
}

// renew: what is in memory stands in a new log, to which more can be appended.
func (s *Store) renew() api.Errno {
	n := s.version.Next
	if e := wal.Create(s.disk, n); e != api.OK {
		return e
	}
	entries := slices.SortedFunc(s.list.From(""), func(a, b api.Entry) int { return cmp.Compare(a.Seq, b.Seq) })
	for items := range slices.Chunk(entries, api.MaxBatch) {
		body, e := batch.Put(items)
		if e != api.OK {
			return e
		}
		if e := wal.Append(s.disk, n, body); e != api.OK {
			return e
		}
	}
	v, e := s.tell(version.Edit{Log: n, Next: n + 1, Seq: s.version.Seq})
	if e != api.OK {
		return e
	}
	s.version, s.cut = v, false
	return s.clean(v)
}
