package merge

import (
	"math/rand"
	"slices"
	"testing"

	"oxbow/api"
)

// The model is the document's words, said once more and apart from the program, entry by entry.

// ahead: does an entry stand ahead of another?
func ahead(a, b api.Entry) bool { return a.Key < b.Key || a.Key == b.Key && a.Seq > b.Seq }

// sorted: entries in order.
func sorted(l []api.Entry) []api.Entry {
	slices.SortFunc(l, func(a, b api.Entry) int {
		switch {
		case ahead(a, b):
			return -1
		case ahead(b, a):
			return 1
		}
		return 0
	})
	return l
}

func modelMerge(lists [][]api.Entry) []api.Entry {
	var all []api.Entry
	for _, l := range lists {
		for _, e := range l {
			if !slices.ContainsFunc(all, func(x api.Entry) bool { return x.Key == e.Key && x.Seq == e.Seq }) {
				all = append(all, e)
			}
		}
	}
	return sorted(all)
}

func modelAlive(e api.Entry, now int64) bool {
	if e.Gone {
		return false
	}
	return e.Until == 0 || !(e.Until < now)
}

// firstUpTo: the place of the first entry of a key whose Seq is at most seq; -1, if there is none.
func firstUpTo(entries []api.Entry, key string, seq int64) int {
	for i, e := range entries {
		if e.Key == key && e.Seq <= seq {
			return i
		}
	}
	return -1
}

// keysOf: each key once, in order.
func keysOf(entries []api.Entry) []string {
	var l []string
	for _, e := range entries {
		if !slices.Contains(l, e.Key) {
			l = append(l, e.Key)
		}
	}
	return l
}

func modelVisible(entries []api.Entry, seq, now int64) []api.Entry {
	var l []api.Entry
	for _, key := range keysOf(entries) {
		if i := firstUpTo(entries, key, seq); i >= 0 && modelAlive(entries[i], now) {
			l = append(l, entries[i])
		}
	}
	return l
}

func modelCompact(entries []api.Entry, snaps []int64, now int64, bottom bool) []api.Entry {
	var l []api.Entry
	for _, key := range keysOf(entries) {
		left := []int{firstUpTo(entries, key, greatest)}
		for _, seq := range snaps {
			if i := firstUpTo(entries, key, seq); i >= 0 {
				left = append(left, i)
			}
		}
		slices.Sort(left)
		left = slices.Compact(left)
		for n := len(left); bottom && n > 0 && !modelAlive(entries[left[n-1]], now); n-- {
			left = left[:n-1]
		}
		l = append(l, places(entries, left...)...)
	}
	return l
}

// wantSame: P13.4: what is visible up to each of the snaps, and up to the greatest number, at now and later, is the same of what is left as of all.
func wantSame(t *testing.T, entries, left []api.Entry, snaps []int64, now int64) {
	t.Helper()
	for _, seq := range append([]int64{greatest}, snaps...) {
		for _, at := range []int64{now, now + 1, now + 2, now + 5, greatest} {
			if at < now {
				continue // behind the greatest time there is no later one
			}
			got, want := Visible(left, seq, at), Visible(entries, seq, at)
			if !slices.Equal(got, want) {
				t.Errorf("P13.4: up to %d at %d of %s, compacted at %d with snaps %v to %s, are visible %s, not %s", seq, at, said(entries), now, snaps, said(left), said(got), said(want))
			}
		}
	}
}

// same: all calls tell of entries what the model does.
func same(t *testing.T, entries []api.Entry, snaps []int64, now int64) {
	t.Helper()
	for _, e := range entries {
		if Alive(e, now) != modelAlive(e, now) {
			t.Errorf("P13.1: Alive of %+v at %d is %t", e, now, Alive(e, now))
		}
	}
	for _, seq := range append([]int64{greatest}, snaps...) {
		if got, want := Visible(entries, seq, now), modelVisible(entries, seq, now); !slices.Equal(got, want) {
			t.Errorf("P13.2: up to %d at %d of %s are visible %s, not %s", seq, now, said(entries), said(got), said(want))
		}
	}
	for _, bottom := range []bool{false, true} {
		got, want := Compact(entries, snaps, now, bottom), modelCompact(entries, snaps, now, bottom)
		if !slices.Equal(got, want) {
			t.Errorf("P13.3: of %s, snaps %v, at %d, bottom %t are left %s, not %s", said(entries), snaps, now, bottom, said(got), said(want))
		}
		wantSame(t, entries, got, snaps, now)
	}
}

// TestAllKeys: a key with each of up to four entries, each kind of them, and each of the snaps that tell them apart.
func TestAllKeys(t *testing.T) {
	const now = 3
	kinds := []func(seq int64) (api.Entry, bool){
		func(seq int64) (api.Entry, bool) { return api.Entry{}, false },
		func(seq int64) (api.Entry, bool) { return put("k", seq), true },
		func(seq int64) (api.Entry, bool) { return gone("k", seq), true },
		func(seq int64) (api.Entry, bool) { return until("k", seq, now-1), true },
		func(seq int64) (api.Entry, bool) { return until("k", seq, now+1), true },
	}
	for row := range 5 * 5 * 5 * 5 {
		var entries []api.Entry
		for seq, rest := int64(4), row; seq > 0; seq, rest = seq-1, rest/5 {
			if e, ok := kinds[rest%5](seq); ok {
				entries = append(entries, e)
			}
		}
		for set := range 1 << 5 {
			var snaps []int64
			for seq := range int64(5) {
				if set>>seq&1 == 1 {
					snaps = append(snaps, seq)
				}
			}
			same(t, entries, snaps, now)
		}
		if t.Failed() {
			return
		}
	}
}

// pick: one of a few.
func pick[T any](r *rand.Rand, of ...T) T { return of[r.Intn(len(of))] }

func someNumber(r *rand.Rand) int64 {
	if r.Intn(12) == 0 {
		return pick[int64](r, least, least+1, -1, 0, greatest-1, greatest)
	}
	return int64(r.Intn(14) - 3)
}

// someEntries: in order, as many as it may be; each has a value that tells it from the others.
func someEntries(r *rand.Rand, most int) []api.Entry {
	var l []api.Entry
	for range r.Intn(most + 1) {
		e := api.Entry{Key: pick(r, "", "\x00", "a", "a", "a", "aa", "b", "\xff"), Seq: someNumber(r)}
		e.Gone, e.Value = r.Intn(3) == 0, string(rune('A'+r.Intn(26)))+string(rune('A'+r.Intn(26)))
		if r.Intn(2) == 0 {
			e.Until = someNumber(r)
		}
		l = append(l, e)
	}
	return slices.CompactFunc(sorted(l), func(a, b api.Entry) bool { return !ahead(a, b) && !ahead(b, a) })
}

func TestModel(t *testing.T) {
	r := rand.New(rand.NewSource(1))
	shared, dropped, hidden := 0, 0, 0
	for range 20000 {
		lists := make([][]api.Entry, r.Intn(6))
		entries := 0
		for i := range lists {
			lists[i] = someEntries(r, pick(r, 0, 2, 8, 20))
			entries += len(lists[i])
		}
		all := modelMerge(lists)
		if got := Merge(lists...); !slices.Equal(got, all) {
			t.Fatalf("P13.1: of %d lists are merged %s, not %s", len(lists), said(got), said(all))
		}
		snaps := make([]int64, r.Intn(5))
		for i := range snaps {
			snaps[i] = someNumber(r)
		}
		now := someNumber(r)
		same(t, all, snaps, now)
		if t.Failed() {
			return
		}
		shared += entries - len(all)
		dropped += len(modelCompact(all, snaps, now, false)) - len(modelCompact(all, snaps, now, true))
		hidden += len(keysOf(all)) - len(modelVisible(all, greatest, now))
	}
	if shared < 10000 || dropped < 10000 || hidden < 10000 {
		t.Errorf("shared %d, dropped %d, hidden %d: too few to tell anything", shared, dropped, hidden)
	}
}
