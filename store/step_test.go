package store

import (
	"fmt"
	"math"
	"slices"
	"strings"
	"testing"

	"oxbow/api"
	"oxbow/budget"
	"oxbow/disk"
	"oxbow/manifest"
	"oxbow/pick"
	"oxbow/version"
	"oxbow/wal"
)

// TestFlush: what no table has becomes one of level 0, the newest first; of nothing nothing becomes.
func TestFlush(t *testing.T) {
	r := newRig(t, calm())
	for i := range 5 {
		v := r.s.Version()
		r.d.Break(1)
		wantError(t, "P17.5: Flush of nothing", r.s.Flush(), api.OK)
		wantError(t, "the first call of the disk behind that", r.d.SyncDir(), api.ErrFull)
		if version.Put(r.s.Version().Whole()) != version.Put(v.Whole()) {
			t.Fatalf("P17.5: Flush of nothing makes %v", r.s.Version())
		}
		r.commit(t, put("b", fmt.Sprint(i)), gone("a"), put(fmt.Sprint(i), "x"))
		r.flush(t)
		r.wantAll(t, "P17.5: behind a Flush")
		w := r.s.Version()
		if len(w.Levels[0]) != i+1 || !slices.Equal(w.Levels[0][1:], v.Levels[0]) || w.Seq != r.m.seq() {
			t.Fatalf("P17.5: a Flush makes %v of %v", w, v)
		}
		if m := w.Levels[0][0]; m.Lo != fmt.Sprint(i) || m.Hi != "b" {
			t.Fatalf("P17.5: the table of a Flush is %v", m)
		}
		if r.s.Budget().Of(budget.Table) != 0 {
			t.Fatalf("P17.6: behind a Flush Table has %d", r.s.Budget().Of(budget.Table))
		}
	}
}

// TestFlushOfSmallBlocks: the index of as many blocks as there may be doesn't fit into a frame; a table comes about all the same.
func TestFlushOfSmallBlocks(t *testing.T) {
	c := calm()
	c.Limit, c.Memory, c.Block, c.Coins, c.File = 1<<21, 1<<18, 1, []int{0, 1, 0, 2, 0, 1, 0, 3}, math.MaxInt64
	r := newRig(t, c)
	for i := range 24 {
		var items []api.Entry
		for j := range 64 {
			items = append(items, put(strings.Repeat("k", 60)+fmt.Sprintf("%04d", 64*i+j), ""))
		}
		r.commit(t, items...)
	}
	r.flush(t)
	r.wantDisk(t, "P17.5: a Flush of small blocks")
	if len(r.s.Version().Levels[0]) != 1 {
		t.Fatalf("P17.5: a Flush makes %v", r.s.Version())
	}
	r.s.config.Limits.Zero = 1
	if !r.step(t) || r.step(t) {
		t.Fatalf("P17.5: Step of small blocks")
	}
	r.wantDisk(t, "P17.5: a Step of small blocks")
	r.again(t)
	l, e := r.s.Scan("", "", Latest, 1<<30)
	wantError(t, "P17.3: Scan", e, api.OK)
	r.wantLike(t, "P17.3: Scan", l, "", "", Latest)
}

// TestStepOfNoneFull: no level is full, so nothing is done.
func TestStepOfNoneFull(t *testing.T) {
	r := layered(t, calm())
	was := fingerprint(r.d)
	r.d.Break(1)
	for range 3 {
		if is, e := r.s.Step(); is || e != api.OK {
			t.Fatalf("P17.5: Step while no level is full is %v, %d", is, e)
		}
	}
	r.d.On()
	if fingerprint(r.d) != was {
		t.Errorf("P17.5: a Step while no level is full changes the disk")
	}
	r.wantAll(t, "P17.5: behind Steps of nothing")
}

// TestSteps: with all kinds of Limits: Step is true just as long as a level is full, and that isn't for ever; neither it nor Flush changes what keys have.
func TestSteps(t *testing.T) {
	for _, zero := range []int{-1, 1, 2, 5} {
		for _, base := range []int64{math.MinInt64, 1, 300, 1 << 50} {
			for _, ratio := range []int64{0, 2, math.MaxInt64} {
				for _, file := range []int64{1, 150, math.MaxInt64} {
					r := newRig(t, calm())
					r.s.config.Limits, r.s.config.File = pick.Limits{Zero: zero, Base: base, Ratio: ratio}, file
					r.wantSteps(t, fmt.Sprintf("P17.5: with the Limits %d, %d, %d, files of %d", zero, base, ratio, file))
				}
			}
		}
	}
}

func (r *rig) wantSteps(t *testing.T, what string) {
	t.Helper()
	for i := range 12 {
		for j := range 5 {
			r.commit(t, put(fmt.Sprint((3*i+5*j)%17), strings.Repeat("v", i*j)), gone(fmt.Sprint((i+2*j)%19)))
		}
		if i%4 == 1 {
			r.snap(t)
		}
		r.flush(t)
		if i%3 != 0 {
			continue
		}
		for n := 0; ; n++ {
			full := false
			for level := range api.Levels {
				full = full || r.s.config.Limits.Full(r.s.Version(), level)
			}
			if r.step(t) != full || n > 1000 {
				t.Fatalf("%s: Step %d isn't %v", what, n, full)
			}
			if !full {
				break
			}
		}
		r.wantAll(t, what)
	}
}

// TestStepIsOfPick: the tables of Pick's job go, and what comes is in the level below, of keys that lie apart; all of level 0 goes at once, of another level one table, whose turn it is.
func TestStepIsOfPick(t *testing.T) {
	c := calm()
	c.File = 60
	r := newRig(t, c)
	for i := range 4 {
		for j := range 12 {
			r.commit(t, put(fmt.Sprintf("k%02d", 4*j+i), "some value"))
		}
		r.flush(t)
	}
	r.s.config.Limits = pick.Limits{Zero: 4, Base: 1, Ratio: 1 << 40}
	v := r.s.Version()
	if !r.step(t) {
		t.Fatalf("P17.5: Step of a full level 0 is false")
	}
	w := r.s.Version()
	if len(w.Levels[0]) != 0 || len(w.Levels[1]) < 10 || w.Log != v.Log || w.Seq != v.Seq || w.Next <= v.Next {
		t.Fatalf("P17.5: of %v a Step makes %v", v, w)
	}
	var moved []string
	for range w.Levels[1] {
		lows := r.s.Version().Levels[1]
		if !r.step(t) {
			t.Fatalf("P17.5: Step of a full level 1 is false")
		}
		for _, m := range lows {
			if !slices.Contains(r.s.Version().Levels[1], m) {
				moved = append(moved, m.Lo)
			}
		}
		r.wantAll(t, "P17.5: a Step of level 1")
	}
	if len(moved) != len(w.Levels[1]) || !slices.IsSorted(moved) {
		t.Errorf("P17.5: out of the level 1 went %v", moved)
	}
	if is, e := r.s.Step(); is || e != api.OK {
		t.Errorf("P17.5: Step behind all is %v, %d", is, e)
	}
}

// TestBottom: what is gone, or past its time, is kept as long as it hides something, or a snap needs it, and no longer.
func TestBottom(t *testing.T) {
	r := newRig(t, calm())
	r.commit(t, put("a", "1"), till("b", "1", 10), put("c", "1"), put("d", "1"))
	r.sink(t, 3)
	snap := r.snap(t)
	r.commit(t, gone("a"), till("c", "2", 10), gone("none"))
	r.now(11)
	for _, down := range []int{1, 2} {
		r.sinkMore(t, down)
		r.wantAll(t, "P17.5: what is gone hides what stands below")
	}
	r.sinkMore(t, 3)
	r.wantAll(t, "P17.5: what a snap sees is kept")
	r.release(t, snap)
	r.s.config.Limits = pick.Limits{Zero: 1000, Base: 1, Ratio: 1}
	for r.step(t) {
	}
	r.wantAll(t, "P17.5: merged at the bottom")
	l := r.tableEntries(t)
	if len(l) != 1 || l[0].Key != "d" {
		t.Errorf("P17.5: at the bottom, at the time 11, there is kept %v", l)
	}
	r.commit(t, gone("d"))
	r.s.config.Limits.Zero = 1
	r.flush(t)
	for r.step(t) {
	}
	r.wantAll(t, "P17.5: all is gone")
	if files := r.s.Version().Files(); len(files) > 0 {
		t.Errorf("P17.5: where all is gone there are the tables %v", files)
	}
	r.again(t)
	r.wantAll(t, "P17.5: all is gone, opened again")
}

// TestAllGoneAtOnce: a Step that leaves nothing, of a store that was found, which must begin a new manifest.
func TestAllGoneAtOnce(t *testing.T) {
	c := calm()
	c.Limits.Zero = 1
	r := newRig(t, c)
	for range 3 {
		r.commit(t, gone("a"), gone("b"))
		r.flush(t)
		r.again(t)
		if !r.step(t) || r.step(t) {
			t.Fatalf("P17.5: Step of what is gone")
		}
		r.wantAll(t, "P17.5: a Step that leaves nothing")
		if files := r.s.Version().Files(); len(files) > 0 {
			t.Errorf("P17.5: where all is gone there are the tables %v", files)
		}
	}
}

// TestTurns: the tables of a level come one behind the other, also where others came ahead of them meanwhile.
func TestTurns(t *testing.T) {
	c := calm()
	c.File = 1
	r := newRig(t, c)
	zero, one := pick.Limits{Zero: 1, Base: 1 << 40, Ratio: 1}, pick.Limits{Zero: 1000, Base: 1, Ratio: 1 << 40}
	lows := func() (l []string) {
		for _, m := range r.s.Version().Levels[1] {
			l = append(l, m.Lo)
		}
		return l
	}
	down := func(limits pick.Limits, want ...string) {
		r.s.config.Limits = limits
		if !r.step(t) || !slices.Equal(lows(), want) {
			t.Fatalf("P17.5: in level 1 are left %v, not %v", lows(), want)
		}
		r.wantAll(t, "P17.5: tables of a level, in turn")
	}
	r.commit(t, put("d", "1"), put("f", "1"), put("h", "1"))
	r.flush(t)
	down(zero, "d", "f", "h")
	down(one, "f", "h")
	r.commit(t, put("a", "2"), put("d", "2"), put("e", "2"))
	r.flush(t)
	down(zero, "a", "d", "e", "f", "h")
	down(one, "a", "d", "f", "h")
	down(one, "a", "d", "h")
	down(one, "a", "d")
	down(one, "d")
	down(one)
}

// sinkMore: what stands above a level is merged down to it, whatever stands there.
func (r *rig) sinkMore(t *testing.T, down int) {
	t.Helper()
	switch down {
	case 1:
		r.flush(t)
		return
	case 2:
		r.s.config.Limits = pick.Limits{Zero: 1, Base: 1 << 40}
	default:
		r.s.config.Limits = pick.Limits{Zero: 1000, Base: 1, Ratio: 1 << 40}
	}
	for r.step(t) {
	}
	r.s.config.Limits = r.c.Limits
}

// tableEntries: all entries that tables have.
func (r *rig) tableEntries(t *testing.T) []api.Entry {
	t.Helper()
	var l []api.Entry
	x := r.s.read(Latest)
	defer x.end()
	for _, tables := range r.s.Version().Levels {
		for _, m := range tables {
			all, e := x.all(m)
			wantError(t, "all of a table", e, api.OK)
			l = append(l, all...)
		}
	}
	return l
}

// TestStepTooLarge: tables that don't fit beside what is in memory aren't merged, and nothing is changed; with room they are.
func TestStepTooLarge(t *testing.T) {
	c := calm()
	c.Limits.Zero = 3
	r := newRig(t, c)
	size := int64(0)
	for i := range 5 {
		for j := range 10 {
			x := put(fmt.Sprint(i*j), strings.Repeat("v", 30))
			r.commit(t, x)
			size += int64(len(x.Key) + len(x.Value))
		}
		r.flush(t)
	}
	r.commit(t, put("a", "b"))
	for _, limit := range []int64{100, 1000, size} {
		r.c.Limit = limit
		r.again(t)
		r.wantStepTooLarge(t, fmt.Sprint("P17.5: with the Limit ", limit))
	}
	r.c.Limit = 1 << 16
	r.again(t)
	b := r.s.Budget()
	wantOK(t, b.Reserve(budget.Engine, b.Left()))
	r.wantStepTooLarge(t, "P17.5: with all room taken by Engine")
	wantOK(t, b.Change(budget.Engine, 0))
	if !r.step(t) || r.step(t) {
		t.Errorf("P17.5: Step with room")
	}
	r.wantAll(t, "P17.5: behind a Step with room")
}

func (r *rig) wantStepTooLarge(t *testing.T, what string) {
	t.Helper()
	v, was := r.s.Version(), fingerprint(r.d)
	r.d.Break(1)
	for range 2 {
		if is, e := r.s.Step(); is || e != api.ErrBudget {
			t.Fatalf("%s: Step is %v, %d", what, is, e)
		}
		r.wantHeld(t, what)
	}
	r.d.On()
	if fingerprint(r.d) != was || version.Put(r.s.Version().Whole()) != version.Put(v.Whole()) {
		t.Fatalf("%s: Step changes the disk, or Version", what)
	}
	r.wantOneByOne(t)
	// It isn't to be read alone.
	r.flush(t)
	r.wantOneByOne(t)
}

// TestManyParts: so many tables come of one Step that no edit tells them; and yet not as many as there are keys, as a disk hasn't names for any number.
func TestManyParts(t *testing.T) {
	c := calm()
	c.File, c.Limits.Zero, c.Memory, c.Coins = 1, 1, 1<<17, []int{0, 1, 2, 0, 3}
	r := newRig(t, c)
	for i := range 600 {
		r.commit(t, put(fmt.Sprintf("%04d", i), "v"))
	}
	r.flush(t)
	if !r.step(t) || r.step(t) {
		t.Fatalf("P17.5: Step of level 0")
	}
	if n := len(r.s.Version().Levels[1]); n != 600 {
		t.Errorf("P17.5: of 600 keys, in tables of a byte, come %d tables", n)
	}
	r.wantDisk(t, "P17.5: many tables")
	for i := range 3000 {
		r.commit(t, put(fmt.Sprintf("%04d", i), strings.Repeat("v", 20)))
	}
	r.flush(t)
	r.step(t)
	if n := len(r.s.Version().Levels[1]); n < 300 || n > 2100 {
		t.Errorf("P17.5: of 3000 keys, in tables of a byte, come %d tables", n)
	}
	r.again(t)
	r.wantDisk(t, "P17.5: many tables")
	l, e := r.s.Scan("", "", Latest, 1<<30)
	wantError(t, "P17.3: Scan", e, api.OK)
	r.wantLike(t, "P17.3: Scan", l, "", "", Latest)
}

// TestParts: tables of a level below 0 are about as large as File says, and no key is in two of them.
func TestParts(t *testing.T) {
	for _, file := range []int64{1, 100, 300, 1000, math.MaxInt64} {
		c := calm()
		c.File, c.Limits.Zero, c.Limits.Base = file, 1, 1<<40
		r := newRig(t, c)
		for i := range 60 {
			if i%10 == 0 {
				r.snap(t)
			}
			r.commit(t, put(fmt.Sprintf("%02d", i%20), strings.Repeat("v", i%30)))
		}
		r.flush(t)
		r.step(t)
		r.wantAll(t, fmt.Sprint("P17.5: files of ", file))
		tables := r.s.Version().Levels[1]
		for i, m := range tables {
			if m.Lo > m.Hi || i > 0 && m.Lo <= tables[i-1].Hi {
				t.Errorf("P17.5: the level 1 has %v", tables)
			}
			if i < len(tables)-1 && m.Size < min(file, 1000) {
				t.Errorf("P17.5: with files of %d one has %d bytes", file, m.Size)
			}
		}
		if file == 1 && len(tables) != 20 || file > 1<<20 && len(tables) != 1 {
			t.Errorf("P17.5: with files of %d there are %d tables", file, len(tables))
		}
	}
}

// TestLargeParts: however large File is, what a Step makes of much fits into files.
func TestLargeParts(t *testing.T) {
	c := calm()
	c.Limit, c.Memory, c.File, c.Block, c.Coins = 1<<23, 1<<18, math.MaxInt64, 1, []int{0, 1, 0, 2, 0, 1, 0, 3, 0, 1, 0, 2, 0, 1, 0, 4}
	r := &rig{d: disk.New(1 << 23), c: c, m: newModel(c)}
	r.open(t)
	value := strings.Repeat("v", 512)
	for i := range 1100 {
		r.commit(t, put(fmt.Sprintf("%04d", i), value), put(fmt.Sprintf("x%04d", i), ""))
	}
	r.s.config.Limits.Zero = 1
	for r.step(t) {
	}
	r.wantDisk(t, "P17.5: much")
	l, e := r.s.Scan("", "", Latest, 1<<30)
	wantError(t, "P17.3: Scan", e, api.OK)
	r.wantLike(t, "P17.3: Scan", l, "", "", Latest)
	if n := len(r.s.Version().Levels[1]); n < 3 || n > 20 {
		t.Errorf("P17.5: of much come %d tables", n)
	}
}

// TestManifestStaysShort: however often is flushed and merged, the manifest doesn't grow on and on; nor does what is on the disk.
func TestManifestStaysShort(t *testing.T) {
	c := calm()
	c.Limits = pick.Limits{Zero: 3, Base: 500, Ratio: 2}
	r := newRig(t, c)
	numbers, most := map[int64]int{}, 0
	for i := range 1500 {
		r.commit(t, put(fmt.Sprint(i%23), strings.Repeat("v", i%40)))
		r.flush(t)
		r.step(t)
		_, n, e := manifest.Load(r.d)
		wantError(t, "manifest.Load", e, api.OK)
		s, _ := r.d.Read(wal.File("manifest", n))
		numbers[n]++
		most = max(most, len(s))
		if r.d.Used() > 12000 || most > 6000 {
			t.Fatalf("P17.5: behind %d Flushes the manifest has %d bytes, the disk %d", i, len(s), r.d.Used())
		}
	}
	if len(numbers) < 10 || len(numbers) > 100 {
		t.Errorf("behind 1500 Flushes and Steps there were %d manifests", len(numbers))
	}
	r.again(t)
	r.wantAll(t, "P17.5: behind many Flushes and Steps")
}

// TestStepDropsBlocks: blocks of tables that went aren't in memory any more.
func TestStepDropsBlocks(t *testing.T) {
	c := calm()
	c.Limits.Zero = 2
	r := newRig(t, c)
	for i := range 2 {
		r.commit(t, put(fmt.Sprint(i), "x"), put("a", fmt.Sprint(i)))
		r.flush(t)
	}
	r.wantRead(t, "ahead of a Step")
	if r.s.Held() == 0 {
		t.Fatalf("P17.6: behind reading Held is 0")
	}
	if !r.step(t) || r.s.Held() != 0 {
		t.Errorf("P17.6: behind a Step of all tables Held is %d", r.s.Held())
	}
	r.wantAll(t, "behind a Step")
}
