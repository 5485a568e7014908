package block

import (
	"strings"

	"oxbow/api"
	"oxbow/varint"
)

// fault is an error of bytes on its way out of a reader. It is a type of its own, so that nothing else that panics is taken for one.
type fault api.Errno

// caught: the fault by which what is done was left, if it was.
func caught(do func()) (e api.Errno) {
	defer func() {
		why := recover()
		if why == nil {
			return
		}
		f, ok := why.(fault)
		if !ok {
			panic(why)
		}
		e = api.Errno(f)
	}()
	do()
	return api.OK
}

// leave: with an error reading ends here.
func leave(e api.Errno) {
	if e != api.OK {
		panic(fault(e))
	}
}

// reader is bytes, and the place in them up to which they have been read.
type reader struct {
	s  string
	at int
}

// entries: all of them, behind which nothing may be left.
func (r *reader) entries() []api.Entry {
	var entries []api.Entry
	// The count alone may be more than the bytes are worth, so there is room only for what has been read.
	for range r.count() {
		entries = append(entries, r.entry(entries))
	}
	if r.at < len(r.s) {
		leave(api.ErrForm)
	}
	return entries
}

// count: how many entries there are.
func (r *reader) count() int {
	n := r.number()
	switch {
	case n > mostEntries:
		leave(api.ErrLong)
	case n < 0:
		leave(api.ErrForm)
	}
	return int(n)
}

// entry: the next one, behind those that were read ahead of it.
func (r *reader) entry(ahead []api.Entry) api.Entry {
	var entry api.Entry
	entry.Key = r.key(ahead)
	entry.Seq = r.number()
	n := r.number()
	switch {
	case n < 0:
		leave(api.ErrForm)
	case n == 0:
		entry.Gone = true
	default:
		entry.Until = n - 1
		entry.Value = r.text()
	}
	leave(fits(ahead, entry))
	return entry
}

// key: the next one, whose beginning may be that of the one ahead.
func (r *reader) key(ahead []api.Entry) string {
	last := ""
	if n := len(ahead); n > 0 {
		last = ahead[n-1].Key
	}
	shared := r.number()
	if shared < 0 || shared > int64(len(last)) {
		leave(api.ErrForm)
	}
	rest := r.text()
	// Where nothing is left behind what is shared, the sum of both would be the memory of the key ahead.
	return strings.Clone(last[:shared]) + rest
}

// number: the next one.
func (r *reader) number() int64 {
	n, next, e := varint.Get(r.s, r.at)
	leave(e)
	r.at = next
	return n
}

// text: the next one.
func (r *reader) text() string {
	s, next, e := varint.GetText(r.s, r.at)
	leave(e)
	r.at = next
	return s
}
