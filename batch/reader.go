package batch

import (
	"oxbow/api"
	"oxbow/varint"
)

// fault is an error of bytes on its way out of a reader. It is a type of its own, so that nothing else that panics is taken for one.
type fault api.Errno

// caught: the fault by which what is done was left, if it was.
func caught(do func()) (e api.Errno) {
	defer func() {
		why := recover()
		if why == nil {
			return
		}
		f, ok := why.(fault)
		if !ok {
			panic(why)
		}
		e = api.Errno(f)
	}()
	do()
	return api.OK
}

// leave: with an error reading ends here.
func leave(e api.Errno) {
	if e != api.OK {
		panic(fault(e))
	}
}

// reader is bytes, and the place in them up to which they have been read.
type reader struct {
	s  string
	at int
}

// items: all of them, behind which nothing may be left.
func (r *reader) items() []api.Entry {
	items := make([]api.Entry, r.count())
	for i := range items {
		items[i] = r.item()
	}
	if r.at < len(r.s) {
		leave(api.ErrForm)
	}
	return items
}

// count: how many items there are.
func (r *reader) count() int {
	n := r.number()
	switch {
	case n > api.MaxBatch:
		leave(api.ErrLong)
	case n < 0:
		leave(api.ErrForm)
	}
	return int(n)
}

// item: the next one.
func (r *reader) item() api.Entry {
	item := api.Entry{Key: r.text()}
	n := r.number()
	switch {
	case n < 0:
		leave(api.ErrForm)
	case n == 0:
		item.Gone = true
	default:
		item.Until = n - 1
		item.Value = r.text()
	}
	leave(good(item))
	return item
}

// number: the next one.
func (r *reader) number() int64 {
	n, next, e := varint.Get(r.s, r.at)
	leave(e)
	r.at = next
	return n
}

// text: the next one.
func (r *reader) text() string {
	s, next, e := varint.GetText(r.s, r.at)
	leave(e)
	r.at = next
	return s
}
