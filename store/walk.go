package store

import (
	"oxbow/api"
	"oxbow/merge"
	"oxbow/skip"
)

// source tells entries in order, some at each call; none, once there are no more.
type source func() ([]api.Entry, api.Errno)

// listedAtOnce: the list is looked through anew for so many entries.
const listedAtOnce = 8

// cursor is a place in the entries of a source.
type cursor struct {
	left []api.Entry // of those that were told last
	more source      // nil: there are no more
}

// walk goes through what the keys of a span have, by rising keys. It holds a block of each table of level 0, and one of each further level.
type walk struct {
	*reading
	to      string
	cursors []*cursor
	last    string // the key of which it is known what it has
}

// walk: one from a key on, and below another one.
func (r *reading) walk(from, to string) *walk {
	w := &walk{reading: r, to: to}
	w.add(r.listed(from))
	for level, tables := range r.version.Levels {
		var sources []source
		for _, m := range tables {
			if m.Hi >= from && isBelow(m.Lo, to) {
				sources = append(sources, r.blocks(m, from))
			}
		}
		if level > 0 {
			sources = []source{chain(sources)}
		}
		w.add(sources...)
	}
	return w
}

func (w *walk) add(sources ...source) {
	for _, more := range sources {
		w.cursors = append(w.cursors, &cursor{more: more})
	}
}

// next: the next entry that a key of the span has.
func (w *walk) next() (api.Entry, bool, api.Errno) {
	for {
		x, is, e := w.take()
		if e != api.OK || !is || !isBelow(x.Key, w.to) {
			return api.Entry{}, false, e
		}
		// What isn't read hides nothing; of what is read the first entry hides the key's others.
		if x.Seq > w.upTo || x.Key == w.last {
			continue
		}
		w.last = x.Key
		if merge.Alive(x, w.now) {
			return x, true, api.OK
		}
	}
}

// take: the entry that stands ahead of all that weren't taken yet.
func (w *walk) take() (api.Entry, bool, api.Errno) {
	var ahead *cursor
	for _, c := range w.cursors {
		if e := c.fill(); e != api.OK {
			return api.Entry{}, false, e
		}
		if len(c.left) > 0 && (ahead == nil || skip.Less(c.left[0], ahead.left[0])) {
			ahead = c
		}
	}
	if ahead == nil {
		return api.Entry{}, false, api.OK
	}
	x := ahead.left[0]
	ahead.left = ahead.left[1:]
	return x, true, api.OK
}

// fill: the cursor has entries left, unless it is at the end.
func (c *cursor) fill() api.Errno {
	if len(c.left) > 0 || c.more == nil {
		return api.OK
	}
	l, e := c.more()
	if len(l) == 0 {
		c.more = nil
	}
	c.left = l
	return e
}

// listed: the list's entries from a key on: at each call those of some keys, each with all that it has.
func (r *reading) listed(from string) source {
	return func() ([]api.Entry, api.Errno) {
		var l []api.Entry
		for x := range r.list.From(from) {
			if n := len(l); n >= listedAtOnce && x.Key != l[n-1].Key {
				break
			}
			l = append(l, x)
		}
		if n := len(l); n > 0 {
			from = l[n-1].Key + "\x00"
		}
		return l, api.OK
	}
}

// chain: what sources tell, one behind the other.
func chain(sources []source) source {
	return func() ([]api.Entry, api.Errno) {
		for ; len(sources) > 0; sources = sources[1:] {
			l, e := sources[0]()
			if len(l) > 0 || e != api.OK {
				return l, e
			}
		}
		return nil, api.OK
	}
}

// isBelow: does a key stand below the end of a span, if that has one?
func isBelow(key, to string) bool { return to == "" || key < to }
