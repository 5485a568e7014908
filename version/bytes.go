package version

import (
	"strings"

	"oxbow/api"
	"oxbow/varint"
)

// mostInEdit: so many tables an edit that is got may drop, and so many it may add.
const mostInEdit = 4096

// Put: the bytes of an edit.
func Put(e Edit) string {
	var b strings.Builder
	b.WriteString(varint.PutAll(e.Log, e.Next, e.Seq, int64(len(e.Drop))))
	b.WriteString(varint.PutAll(e.Drop...))
	b.WriteString(varint.Put(int64(len(e.Add))))
	for _, p := range e.Add {
		b.WriteString(varint.PutAll(int64(p.Level), p.Meta.File, p.Meta.Size))
		b.WriteString(varint.PutText(p.Meta.Lo))
		b.WriteString(varint.PutText(p.Meta.Hi))
	}
	return b.String()
}

// Get: the edit that bytes are.
func Get(s string) (Edit, api.Errno) {
	r := reader{s: s}
	e := r.edit()
	if r.fault == api.OK && r.at < len(s) {
		r.fault = api.ErrForm
	}
	if r.fault != api.OK {
		return Edit{}, r.fault
	}
	return e, api.OK
}

// reader reads bytes from the left; behind the first fault it reads nothing any more.
type reader struct {
	s     string
	at    int
	fault api.Errno
}

func (r *reader) edit() Edit {
	e := Edit{Log: r.number(), Next: r.number(), Seq: r.number()}
	for n := r.numberTo(mostInEdit); n > 0 && r.fault == api.OK; n-- {
		e.Drop = append(e.Drop, r.number())
	}
	for n := r.numberTo(mostInEdit); n > 0 && r.fault == api.OK; n-- {
		e.Add = append(e.Add, r.place())
	}
	return e
}

func (r *reader) place() Place {
	level := r.numberTo(api.Levels - 1)
	m := Meta{File: r.number(), Size: r.number(), Lo: r.text(), Hi: r.text()}
	return Place{int(level), m}
}

// numberTo: a number from 0 to the greatest that may be.
func (r *reader) numberTo(most int64) int64 {
	n := r.number()
	if n < 0 || n > most {
		r.fault = api.ErrForm
		return 0
	}
	return n
}

func (r *reader) number() int64 {
	if r.fault != api.OK {
		return 0
	}
	n, next, e := varint.Get(r.s, r.at)
	r.at, r.fault = next, e
	return n
}

func (r *reader) text() string {
	if r.fault != api.OK {
		return ""
	}
	s, next, e := varint.GetText(r.s, r.at)
	r.at, r.fault = next, e
	return s
}
