package table

import (
	"slices"
	"strings"

	"oxbow/api"
	"oxbow/block"
	"oxbow/bloom"
	"oxbow/frame"
	"oxbow/varint"
)

const (
	mostInBlock = 2048
	every       = 16
	placeSize   = 8
)

// bytesOf: the frames of a table, one behind the other, of entries that are in order.
func bytesOf(entries []api.Entry, size, bits int) string {
	var b strings.Builder
	put := func(body string, e api.Errno) Span {
		leave(e)
		f, e := frame.Put(body)
		leave(e)
		at := b.Len()
		b.WriteString(f)
		return Span{At: at, N: len(f)}
	}
	var spans []Span
	for left := entries; len(left) > 0; {
		n := taken(left, size)
		span := put(block.Build(left[:n], every))
		span.Last = left[n-1].Key
		spans = append(spans, span)
		left = left[n:]
	}
	index := put(indexOf(spans), api.OK)
	filter := put(bloom.New(bits, keysOf(entries)...))
	put(placeBytes(index.At)+placeBytes(filter.At), api.OK)
	return b.String()
}

// taken: how many of these entries the first block takes.
func taken(entries []api.Entry, size int) int {
	held := 0
	for i, entry := range entries {
		// While it has none it holds no bytes, which are fewer than any size.
		if i == mostInBlock || held >= size {
			return i
		}
		held += len(entry.Key) + len(entry.Value)
	}
	return len(entries)
}

// indexOf: the index of blocks.
func indexOf(spans []Span) string {
	var b strings.Builder
	b.WriteString(varint.Put(int64(len(spans))))
	for _, span := range spans {
		b.WriteString(varint.PutText(span.Last))
		b.WriteString(varint.PutAll(int64(span.At), int64(span.N)))
	}
	return b.String()
}

// keysOf: the keys of entries in order, each once.
func keysOf(entries []api.Entry) []string {
	keys := make([]string, len(entries))
	for i, entry := range entries {
		keys[i] = entry.Key
	}
	return slices.Compact(keys)
}

// placeBytes: a place as it stands in the foot.
func placeBytes(place int) string {
	var b [placeSize]byte
	for i := range b {
		b[placeSize-1-i] = byte(uint64(place) >> (8 * i))
	}
	return string(b[:])
}
