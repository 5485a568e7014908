package store

import (
	"fmt"
	"math"
	"slices"
	"strings"
	"testing"

	"oxbow/api"
	"oxbow/budget"
)

// many: so many items with other keys.
func many(n int) []api.Entry {
	var l []api.Entry
	for i := range n {
		l = append(l, put(fmt.Sprintf("%03d", i), fmt.Sprint(i)))
	}
	return l
}

// TestCommit: changes are made one behind the other, also of one key; they are read at once, and last.
func TestCommit(t *testing.T) {
	r := newRig(t, wide())
	for _, items := range [][]api.Entry{
		{put("a", "1")},
		{put("a", "2"), put("a", "3"), gone("a"), put("a", "4")},
		{gone("a")},
		{gone("none"), gone("none")},
		{{Key: "b", Seq: 99, Value: "x"}, {Key: "a", Seq: -1, Until: 5}},
		{till("c", "", math.MaxInt64-1), put("\x00", "\x00"), put("\xff\xff", "")},
		{put(strings.Repeat("k", 64), strings.Repeat("v", 512)), till(strings.Repeat("k", 63), "", 1)},
		many(64),
	} {
		r.commitPlain(t, items)
		r.wantAll(t, "P17.2: behind Commit")
		r.d.Crash(0)
		r.again(t)
		r.wantAll(t, "P17.2: behind Commit, and a loss of power")
	}
}

// commitPlain: as commit, of items with numbers of their own, which count for nothing.
func (r *rig) commitPlain(t *testing.T, items []api.Entry) {
	t.Helper()
	was := slices.Clone(items)
	r.commit(t, items...)
	if !slices.Equal(items, was) {
		t.Fatalf("P17.2: Commit changes what it is handed")
	}
	// What was handed in isn't kept.
	for i := range items {
		items[i] = put("other", "other")
	}
}

// TestCommitRefused: items that batch.Put refuses change nothing, and the store goes on.
func TestCommitRefused(t *testing.T) {
	r := newRig(t, wide())
	r.commit(t, put("a", "1"))
	r.flush(t)
	r.commit(t, put("b", "2"))
	was := fingerprint(r.d)
	long := strings.Repeat("v", 513)
	for i, x := range []struct {
		items []api.Entry
		want  api.Errno
	}{
		{many(65), api.ErrLong},
		{append(many(64), put("", "")), api.ErrLong},
		{append(many(20), put("", "")), api.ErrArg},
		{[]api.Entry{put("", "")}, api.ErrArg},
		{[]api.Entry{put(strings.Repeat("k", 65), "")}, api.ErrLong},
		{[]api.Entry{put("a", long)}, api.ErrLong},
		{[]api.Entry{put("a", long), put("", "")}, api.ErrLong},
		{[]api.Entry{put("", ""), put("a", long)}, api.ErrArg},
		{[]api.Entry{put("c", "3"), till("a", "x", -1)}, api.ErrArg},
		{[]api.Entry{till("a", "x", math.MinInt64)}, api.ErrArg},
		{[]api.Entry{till("a", "x", math.MaxInt64)}, api.ErrArg},
		{[]api.Entry{{Key: "a", Gone: true, Value: "x"}}, api.ErrArg},
		{[]api.Entry{{Key: "a", Gone: true, Until: 1}}, api.ErrArg},
	} {
		// Nothing is asked of the disk.
		r.d.Break(1)
		if seq, e := r.s.Commit(x.items...); seq != 0 || e != x.want {
			t.Errorf("P17.2: %d: Commit is %d, %d, not %d", i, seq, e, x.want)
		}
		wantError(t, "the first call behind that", r.d.SyncDir(), api.ErrFull)
	}
	if fingerprint(r.d) != was {
		t.Errorf("P17.2: Commit that is refused changes the disk")
	}
	r.wantAll(t, "P17.2: behind Commits that were refused")
	r.commit(t, put("c", "3"))
	r.wantAll(t, "P17.2: behind a Commit")
}

// TestCommitNothing: of no items nothing is done, also where nothing would fit.
func TestCommitNothing(t *testing.T) {
	for _, limit := range []int64{-1, 0, 1 << 20} {
		c := wide()
		c.Limit, c.Memory = limit, 1
		r := newRig(t, c)
		was := fingerprint(r.d)
		r.d.Break(1)
		for _, items := range [][]api.Entry{nil, {}} {
			if seq, e := r.s.Commit(items...); seq != 0 || e != api.OK {
				t.Errorf("P17.2: Commit of nothing is %d, %d", seq, e)
			}
		}
		r.d.On()
		if fingerprint(r.d) != was || r.s.Seq() != 0 {
			t.Errorf("P17.2: Commit of nothing changes something")
		}
	}
}

// TestCommitMemory: what fits just into the Memory, and what doesn't.
func TestCommitMemory(t *testing.T) {
	for _, coins := range [][]int{nil, {7}, {0, 7, 3}} {
		for _, n := range []int{1, 2, 5} {
			items := many(n)
			size := int64(n)*104 + int64(n*4)
			for _, memory := range []int64{1, 104, size - 1, size, size + 1} {
				c := wide()
				c.Memory, c.Coins = memory, coins
				r := newRig(t, c)
				if memory < size {
					r.wantTooMuch(t, items)
					continue
				}
				r.commit(t, items...)
				r.wantAll(t, "P17.2: what just fits")
			}
		}
	}
}

// wantTooMuch: Commit is ErrBudget, and changes nothing.
func (r *rig) wantTooMuch(t *testing.T, items []api.Entry) {
	t.Helper()
	was := fingerprint(r.d)
	if seq, e := r.s.Commit(items...); seq != 0 || e != api.ErrBudget {
		t.Fatalf("P17.2: Commit of %d items with the Memory %d, the Limit %d, is %d, %d", len(items), r.c.Memory, r.c.Limit, seq, e)
	}
	if fingerprint(r.d) != was {
		t.Fatalf("P17.2: Commit that is ErrBudget changes the disk")
	}
	r.wantAll(t, "P17.2: behind a Commit that is ErrBudget")
}

// TestCommitLimit: what fits just into the Limit less what is of the kind Engine, and what doesn't; also where the cache has what is left.
func TestCommitLimit(t *testing.T) {
	for _, engine := range []int64{0, 1, 400} {
		for _, over := range []int64{-1, 0, 1} {
			items := many(3)
			c := wide()
			c.Limit = engine + 3*104 + 12 + over
			r := newRig(t, c)
			wantOK(t, r.s.Budget().Reserve(budget.Engine, engine))
			if over < 0 {
				r.wantTooMuch(t, items)
				continue
			}
			r.m.config.Memory = c.Limit - engine
			for i := range 6 {
				r.commit(t, items...)
				r.wantHeld(t, "P17.2: a Commit that just fits into the Limit")
				r.wantRoomForAll(t)
				if files := len(r.s.Version().Files()); files != i {
					t.Fatalf("P17.2: behind %d Commits there are %d tables", i+1, files)
				}
			}
			r.d.Crash(0)
			r.c.Limit = 1 << 20
			r.again(t)
			r.wantAll(t, "P17.2: with another Limit")
		}
	}
}

// wantRoomForAll: keys are read one by one, so that the cache takes all that is left.
func (r *rig) wantRoomForAll(t *testing.T) {
	t.Helper()
	for _, key := range r.m.keys() {
		want, _, _ := r.m.has(key, Latest)
		if x, is, e := r.s.Get(key, Latest); x != want || !is || e != api.OK {
			t.Fatalf("P17.3: Get of %q is %v, %v, %d", key, x, is, e)
		}
	}
	r.wantHeld(t, "P17.6: behind Gets")
}

// TestExampleOfLimit: a store with a Limit of 100 bytes takes no change, and tells that nothing is there.
func TestExampleOfLimit(t *testing.T) {
	c := wide()
	c.Limit = 100
	r := newRig(t, c)
	r.wantTooMuch(t, []api.Entry{put("a", "")})
	r.wantTooMuch(t, []api.Entry{gone("a")})
	r.wantTooMuch(t, many(64))
	wantError(t, "Flush", r.s.Flush(), api.OK)
	r.wantAll(t, "a Limit of 100 bytes")
}

// TestTableFirst: what was in memory is made a table, if it doesn't fit together with what comes: just then, and not ahead.
func TestTableFirst(t *testing.T) {
	for _, coins := range [][]int{nil, {7}, {2, 5}} {
		c := wide()
		c.Memory, c.Coins = 500, coins
		r := newRig(t, c)
		tables := 0
		for i := range 40 {
			items := many(1 + i%4)
			n := int64(len(items)) * 108
			for j := range items {
				items[j].Value = items[j].Value + strings.Repeat("v", i%7)
				n += int64(len(items[j].Key)+len(items[j].Value)) - 4
			}
			if n > c.Memory {
				r.wantTooMuch(t, items)
				continue
			}
			if r.m.list.Size()+n > c.Memory {
				tables++
			}
			r.commit(t, items...)
			r.wantAll(t, "P17.2: a table first")
			if v := r.s.Version(); len(v.Levels[0]) != tables || tables > 0 && v.Seq != r.m.seq()-int64(r.m.list.Len()) {
				t.Fatalf("P17.2: behind %d Commits there are %d tables, not %d, up to %d", i+1, len(v.Levels[0]), tables, v.Seq)
			}
		}
		if tables < 5 {
			t.Errorf("P17.2: only %d tables were made", tables)
		}
	}
}

// TestTooMuchKeepsMemory: what is too much makes no table of what is in memory.
func TestTooMuchKeepsMemory(t *testing.T) {
	c := wide()
	c.Memory = 400
	r := newRig(t, c)
	r.commit(t, many(3)...)
	r.wantTooMuch(t, many(4))
	if len(r.s.Version().Files()) != 0 {
		t.Errorf("P17.2: ErrBudget makes a table")
	}
	r.commit(t, put("k", "v"))
	r.wantAll(t, "P17.2: behind ErrBudget")
}
