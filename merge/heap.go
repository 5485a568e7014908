package merge

import (
	"container/heap"

	"oxbow/api"
	"oxbow/skip"
)

// source is what is left of a list, at least one entry, and the list's place among all.
type source struct {
	left  []api.Entry
	place int
}

// sources is a heap of them: it gives first the one whose entries go on first; where several have one key and Seq, that of the first list.
type sources []*source

// sourcesOf: all lists that have entries.
func sourcesOf(lists [][]api.Entry) *sources {
	s := &sources{}
	for i, l := range lists {
		if len(l) > 0 {
			*s = append(*s, &source{l, i})
		}
	}
	heap.Init(s)
	return s
}

// next takes out the entry that stands ahead of all others.
func (s *sources) next() api.Entry {
	first := heap.Pop(s).(*source)
	e := first.left[0]
	first.left = first.left[1:]
	if len(first.left) > 0 {
		heap.Push(s, first)
	}
	return e
}

func (s sources) Len() int { return len(s) }

func (s sources) Less(i, j int) bool {
	a, b := s[i].left[0], s[j].left[0]
	switch {
	case skip.Less(a, b):
		return true
	case skip.Less(b, a):
		return false
	}
	return s[i].place < s[j].place
}

func (s sources) Swap(i, j int) { s[i], s[j] = s[j], s[i] }

func (s *sources) Push(x any) { *s = append(*s, x.(*source)) }

func (s *sources) Pop() any {
	end := len(*s) - 1
	last := (*s)[end]
	*s = (*s)[:end]
	return last
}
