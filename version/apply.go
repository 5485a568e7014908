package version

import (
	"cmp"
	"slices"
	"strings"
)

// fate is what becomes of a file by an edit; 0 of one that isn't there.
type fate int

const (
	stays fate = iota + 1
	goes
	comes
)

// fates: the files that are there, before an edit is looked at.
func (v Version) fates() map[int64]fate {
	there := map[int64]fate{}
	for _, tables := range v.Levels {
		for _, m := range tables {
			there[m.File] = stays
		}
	}
	return there
}

// leadsTo: may the edit's numbers come behind the version's?
func (v Version) leadsTo(e Edit) bool {
	if e.Log < v.Log || e.Next < v.Next || e.Seq < v.Seq {
		return false
	}
	return e.Log < e.Next || e.Log == 0 && e.Next == 0
}

// drop: the files go; false, if one can't.
func drop(there map[int64]fate, files []int64) bool {
	for _, n := range files {
		if there[n] != stays {
			return false
		}
		there[n] = goes
	}
	return true
}

// add: the edit's tables come; false, if one can't. A number stands for one file for good, so one that goes doesn't come again.
func add(there map[int64]fate, e Edit) bool {
	for _, p := range e.Add {
		m := p.Meta
		if !isLevel(int64(p.Level)) || m.File < 0 || m.File >= e.Next || m.Size < 0 || m.Lo > m.Hi {
			return false
		}
		if there[m.File] != 0 {
			return false
		}
		there[m.File] = comes
	}
	return true
}

// changed: the version with what stays and what comes, in order, and the edit's numbers.
func (v Version) changed(e Edit, there map[int64]fate) Version {
	next := Version{Log: e.Log, Next: e.Next, Seq: e.Seq}
	for level, tables := range v.Levels {
		for _, m := range tables {
			if there[m.File] == stays {
				next.take(level, m)
			}
		}
	}
	for _, p := range e.Add {
		next.take(p.Level, p.Meta)
	}
	for level, tables := range next.Levels {
		slices.SortFunc(tables, orderOf(level))
	}
	return next
}

// take: a level has a table more.
func (v *Version) take(level int, m Meta) {
	v.Levels[level] = append(v.Levels[level], m.clone())
}

// orderOf: how the tables of a level stand in order.
func orderOf(level int) func(a, b Meta) int {
	if level == 0 {
		return func(a, b Meta) int { return cmp.Compare(b.File, a.File) }
	}
	return func(a, b Meta) int { return strings.Compare(a.Lo, b.Lo) }
}

// apart: from level 1 on, has no table a key in common with another one of its level?
func (v Version) apart() bool {
	for _, tables := range v.Levels[1:] {
		// By rising Lo a table that has a key in common with any one behind it has one with the next one too.
		for i := 1; i < len(tables); i++ {
			if tables[i].Lo <= tables[i-1].Hi {
				return false
			}
		}
	}
	return true
}
