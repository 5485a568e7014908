package merge

import (
	"iter"
	"slices"

	"oxbow/api"
)

// eachKey: an iterator over the entries of each key.
func eachKey(entries []api.Entry) iter.Seq[[]api.Entry] {
	return func(yield func([]api.Entry) bool) {
		end := 0
		for from := 0; from < len(entries); from = end {
			for end < len(entries) && entries[end].Key == entries[from].Key {
				end++
			}
			if !yield(entries[from:end]) {
				return
			}
		}
	}
}

// needed: of one key's entries the places of the first one, and of those that who reads up to a snap comes upon. The snaps rise.
func needed(same []api.Entry, snaps []int64) map[int]struct{} {
	kept := map[int]struct{}{0: {}}
	for i := 1; i < len(same); i++ {
		// The least snap that sees this entry is the one that may not see the entry ahead.
		at, _ := slices.BinarySearch(snaps, same[i].Seq)
		if at < len(snaps) && snaps[at] < same[i-1].Seq {
			kept[i] = struct{}{}
		}
	}
	return kept
}

// dropDead: of what is kept of one key's entries those at the end that aren't alive are kept no more: below them there is nothing that they would hide.
func dropDead(kept map[int]struct{}, same []api.Entry, now int64) {
	for i := len(same) - 1; i >= 0; i-- {
		if _, ok := kept[i]; ok && Alive(same[i], now) {
			return
		}
		delete(kept, i)
	}
}
