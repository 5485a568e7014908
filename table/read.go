package table

import (
	"oxbow/api"
	"oxbow/block"
	"oxbow/frame"
	"oxbow/varint"
)

const (
	leastFrame = 8
	footFrame  = leastFrame + 2*placeSize
)

// read: filter and blocks of the table whose foot stands at this place.
func (t *Table) read(foot int) {
	index, filter := places(t.body(foot, footFrame), foot)
	told := t.body(index, filter-index)
	t.filter = t.body(filter, foot-filter)
	t.spans = spansOf(told, index)
}

// body: that of the one frame that so many bytes must be.
func (t *Table) body(at, n int) string {
	s, e := t.src(at, n)
	leave(e)
	body, next, e := frame.Get(s, 0)
	leave(e)
	must(next == n)
	return body
}

// places: where index and filter stand, ahead of the foot that tells it.
func places(foot string, end int) (int, int) {
	index, filter := place(foot[:placeSize]), place(foot[placeSize:])
	must(index <= filter && filter <= uint64(end))
	return int(index), int(filter)
}

// place: that of the bytes that it has in the foot. What would be below 0 is beyond every end here.
func place(s string) uint64 {
	n := uint64(0)
	for i := range len(s) {
		n = n<<8 | uint64(s[i])
	}
	return n
}

// spansOf: the blocks that an index tells, which must fill what stands ahead of the index's place.
func spansOf(index string, place int) []Span {
	at := 0
	number := func() int64 {
		n, next, e := varint.Get(index, at)
		leave(e)
		at = next
		return n
	}
	text := func() string {
		s, next, e := varint.GetText(index, at)
		leave(e)
		at = next
		return s
	}
	count := number()
	must(count >= 0)
	// The count alone may be more than the bytes are worth, so there is room only for what has been read.
	var spans []Span
	end, last := 0, ""
	for range count {
		key, from, n := text(), number(), number()
		must(from == int64(end) && n >= leastFrame && n <= int64(place-end) && key >= last)
		spans = append(spans, Span{Last: key, At: end, N: int(n)})
		end, last = end+int(n), key
	}
	must(at == len(index) && end == place)
	return spans
}

// from: the entries from a key on.
func (t *Table) from(key string) []api.Entry {
	var all, ahead []api.Entry
	for i := t.Which(key); i < len(t.spans); i++ {
		entries := t.entries(i)
		must(behind(ahead, entries))
		for _, entry := range entries {
			if entry.Key >= key {
				all = append(all, entry)
			}
		}
		ahead = entries
	}
	return all
}

// entries: those of a block, the last of which the index must tell.
func (t *Table) entries(i int) []api.Entry {
	s, e := t.Block(i)
	leave(e)
	entries, e := block.Parse(s)
	leave(e)
	n := len(entries)
	must(n > 0 && entries[n-1].Key == t.spans[i].Last)
	return entries
}

// behind: may these entries stand behind the block that was read ahead, if one was?
func behind(ahead, entries []api.Entry) bool {
	if len(ahead) == 0 {
		return true
	}
	_, e := block.Ordered([]api.Entry{ahead[len(ahead)-1], entries[0]})
	return e == api.OK
}
