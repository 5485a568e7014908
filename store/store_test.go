package store

import (
	"fmt"
	"math"
	"slices"
	"testing"

	"oxbow/api"
	"oxbow/budget"
	"oxbow/disk"
	"oxbow/version"
)

// TestExample: that of the chapter.
func TestExample(t *testing.T) {
	s, e := Open(disk.New(10000), wide())
	wantError(t, "Open", e, api.OK)
	if seq, e := s.Commit(put("a", "1"), put("b", "2")); seq != 2 || e != api.OK {
		t.Errorf("the first Commit is %d, %d", seq, e)
	}
	if seq := s.Snap(); seq != 2 {
		t.Errorf("Snap is %d", seq)
	}
	if seq, e := s.Commit(gone("a")); seq != 3 || e != api.OK {
		t.Errorf("the second Commit is %d, %d", seq, e)
	}
	if x, is, e := s.Get("a", Latest); is || e != api.OK || x != (api.Entry{}) {
		t.Errorf("Get at Latest is %v, %v, %d", x, is, e)
	}
	if x, is, e := s.Get("a", 2); !is || e != api.OK || x != (api.Entry{Key: "a", Seq: 1, Value: "1"}) {
		t.Errorf("Get at 2 is %v, %v, %d", x, is, e)
	}
}

// TestLatest: the constant of the chapter.
func TestLatest(t *testing.T) {
	if Latest != math.MaxInt64 {
		t.Errorf("Latest is %d", int64(Latest))
	}
}

// badConfigs: each has one number that is beside its bounds.
func badConfigs() []Config {
	var l []Config
	for _, n := range []int64{math.MinInt64, -1, 0, 1<<18 + 1, math.MaxInt64} {
		c := wide()
		c.Memory = n
		l = append(l, c)
	}
	for _, n := range []int{math.MinInt, -1, 0, 4097, math.MaxInt} {
		c := wide()
		c.Block = n
		l = append(l, c)
	}
	for _, n := range []int{math.MinInt, -1, 0, 17, math.MaxInt} {
		c := wide()
		c.Bits = n
		l = append(l, c)
	}
	for _, n := range []int64{math.MinInt64, -1, 0} {
		c := wide()
		c.File = n
		l = append(l, c)
	}
	return l
}

// TestGood: at each bound, and one beside it; of the Limit, the Limits and the coins nothing is asked.
func TestGood(t *testing.T) {
	for _, c := range append(badConfigs(), Config{}) {
		if c.Good() {
			t.Errorf("P17.1: %v is good", c)
		}
	}
	for _, memory := range []int64{1, 2, 1<<18 - 1, 1 << 18} {
		for _, block := range []int{1, 4096} {
			for _, bits := range []int{1, 16} {
				for _, file := range []int64{1, 2, math.MaxInt64} {
					for _, limit := range []int64{math.MinInt64, 0, math.MaxInt64} {
						c := Config{Limit: limit, Memory: memory, Block: block, Bits: bits, File: file, Coins: []int{-1}}
						c.Limits.Zero, c.Limits.Base, c.Limits.Ratio = -1, -limit, limit
						if !c.Good() {
							t.Errorf("P17.1: %v isn't good", c)
						}
					}
				}
			}
		}
	}
}

// TestNil: of a nil store every call that tells an error answers ErrNil, the others nothing.
func TestNil(t *testing.T) {
	var s *Store
	seq, e := s.Commit()
	if seq != 0 || e != api.ErrNil {
		t.Errorf("P17.1: Commit of nothing is %d, %d", seq, e)
	}
	if seq, e = s.Commit(put("a", "b"), put("", "")); seq != 0 || e != api.ErrNil {
		t.Errorf("P17.1: Commit is %d, %d", seq, e)
	}
	if x, is, e := s.Get("a", Latest); x != (api.Entry{}) || is || e != api.ErrNil {
		t.Errorf("P17.1: Get is %v, %v, %d", x, is, e)
	}
	for most := range 2 {
		if l, e := s.Scan("", "", Latest, most); len(l) > 0 || e != api.ErrNil {
			t.Errorf("P17.1: Scan is %v, %d", l, e)
		}
	}
	if x, is, e := s.Next("", "", 0); x != (api.Entry{}) || is || e != api.ErrNil {
		t.Errorf("P17.1: Next is %v, %v, %d", x, is, e)
	}
	wantError(t, "P17.1: Flush", s.Flush(), api.ErrNil)
	if is, e := s.Step(); is || e != api.ErrNil {
		t.Errorf("P17.1: Step is %v, %d", is, e)
	}
	s.Now(7)
	s.Close()
	s.Close()
	if s.Snap() != 0 || s.Release(0) || s.Seq() != 0 || s.Held() != 0 || s.Budget() != nil {
		t.Errorf("P17.1: a nil store tells something")
	}
	if v := s.Version(); version.Put(v.Whole()) != version.Put(version.Edit{}) {
		t.Errorf("P17.1: Version is %v", v)
	}
}

// TestSnaps: up to 64, each as often as it was told.
func TestSnaps(t *testing.T) {
	r := newRig(t, wide())
	for i := range 64 {
		if i%3 == 2 {
			r.commit(t, put("a", fmt.Sprint(i)))
		}
		r.snap(t)
	}
	for range 3 {
		if seq := r.s.Snap(); seq != -1 {
			t.Fatalf("P17.4: the 65th Snap is %d", seq)
		}
	}
	for _, none := range []int64{-1, 22, Latest, math.MinInt64} {
		if r.s.Release(none) {
			t.Fatalf("P17.4: %d, which is no snap, is released", none)
		}
	}
	r.wantRead(t, "P17.4: 64 snaps")
	// Of 0 there are two, of each further number three, and of the last one, as it was told first by the 63rd, two.
	for seq, times := range map[int64]int{0: 2, 1: 3, 7: 3, 21: 2} {
		for range times {
			r.release(t, seq)
			r.wantRead(t, "P17.4: a snap is released")
		}
		if r.s.Release(seq) {
			t.Fatalf("P17.4: %d is released more often than %d times", seq, times)
		}
	}
	for range 10 {
		r.snap(t)
	}
	if seq := r.s.Snap(); seq != -1 {
		t.Fatalf("P17.4: a Snap above 64 is %d", seq)
	}
}

// TestSnapStays: what a snap sees stays as it is, whatever is flushed and merged behind it; once it is released it is not kept.
func TestSnapStays(t *testing.T) {
	c := wide()
	c.Limits.Zero, c.Limits.Base, c.Limits.Ratio = 1, 1, 1
	r := newRig(t, c)
	r.commit(t, put("a", "1"), put("b", "1"), put("c", "1"))
	first := r.snap(t)
	r.commit(t, gone("a"), put("b", "2"))
	r.snap(t)
	for i := range 5 {
		r.flush(t)
		for r.step(t) {
		}
		r.wantAll(t, "P17.4: merged")
		r.commit(t, put("a", fmt.Sprint(i)), put("b", fmt.Sprint(i)), put("d", "d"))
		r.wantAll(t, "P17.4: changed again")
	}
	r.release(t, first)
	r.commit(t, put("c", "2"))
	r.flush(t)
	for r.step(t) {
	}
	r.wantAll(t, "P17.4: released")
	l, e := r.s.Scan("", "", Latest, 10)
	if e != api.OK || len(l) != 4 {
		t.Errorf("P17.3: Scan is %v, %d", l, e)
	}
}

// TestNow: the time never falls, and what is past it is gone.
func TestNow(t *testing.T) {
	r := newRig(t, wide())
	r.commit(t, till("a", "x", 10), till("b", "y", 11), till("c", "z", 0), till("d", "", math.MaxInt64-1))
	for _, now := range []int64{math.MinInt64, -1, 0, 1, 9, 10, 4, 0, math.MinInt64, 10, 11, 10, 12, 11, math.MaxInt64 - 1, 0} {
		r.now(now)
		r.wantRead(t, fmt.Sprint("P17.4: behind Now of ", now))
	}
	l, e := r.s.Scan("", "", Latest, 10)
	if e != api.OK || len(l) != 2 || l[0].Key != "c" || l[1].Key != "d" {
		t.Errorf("P17.4: at a late time there are %v, %d", l, e)
	}
	r.now(math.MaxInt64)
	r.wantRead(t, "P17.4: at the latest time")
	r.again(t)
	if x, is, e := r.s.Get("a", Latest); !is || e != api.OK || x.Until != 10 {
		t.Errorf("P17.1: in a store that wasn't told the time a is %v, %v, %d", x, is, e)
	}
}

// TestUntil: a key whose Until is 10 is there at the time 10, and gone at 11, in memory and in tables of each level.
func TestUntil(t *testing.T) {
	for level := range api.Levels + 1 {
		for _, now := range []int64{0, 9, 10, 11, 12} {
			r := atLevel(t, level, till("a", "x", 10), put("b", "y"))
			r.now(now)
			r.wantAll(t, fmt.Sprintf("P17.3: at the time %d, %d down", now, level))
			if _, is, e := r.s.Get("a", Latest); is != (now <= 10) || e != api.OK {
				t.Errorf("P17.3: at the time %d, %d down, a is there: %v, %d", now, level, is, e)
			}
		}
	}
}

// atLevel: a store that has changes in memory (0), or in a table of the level 0 (1), or further down.
func atLevel(t *testing.T, down int, items ...api.Entry) *rig {
	t.Helper()
	r := newRig(t, wide())
	r.commit(t, items...)
	r.sink(t, down)
	return r
}

// TestVersion: what is told isn't the store's own.
func TestVersion(t *testing.T) {
	r := atLevel(t, 2, put("a", "b"))
	r.commit(t, put("c", "d"))
	r.flush(t)
	v := r.s.Version()
	if len(v.Levels[0]) != 1 || len(v.Levels[1]) != 1 || v.Seq != 2 || v.Log < 0 || v.Log >= v.Next {
		t.Fatalf("P17.6: Version is %v", v)
	}
	v.Levels[0][0], v.Levels[1][0] = version.Meta{}, version.Meta{}
	r.wantAll(t, "P17.6: a Version that is written into")
}

// TestBudget: it is the store's, and the same at each call.
func TestBudget(t *testing.T) {
	r := newRig(t, wide())
	b := r.s.Budget()
	if b == nil || b != r.s.Budget() || b.Left() != r.c.Limit {
		t.Fatalf("P17.6: the budget of a new store has %d left of %d", b.Left(), r.c.Limit)
	}
	for _, limit := range []int64{math.MinInt64, -1, 0, 1, api.MaxBudget, api.MaxBudget + 1, math.MaxInt64} {
		c := wide()
		c.Limit = limit
		s, e := Open(disk.New(1000), c)
		if want := min(max(limit, 0), api.MaxBudget); e != api.OK || s.Budget().Left() != want {
			t.Errorf("P17.6: with the Limit %d the budget has %d left, %d", limit, s.Budget().Left(), e)
		}
	}
}

// TestCoins: the towers are as high as the coins say, and a list of coins that was handed in isn't kept.
func TestCoins(t *testing.T) {
	c := wide()
	c.Coins = []int{7, 0, 3, -5}
	r := newRig(t, c)
	r.s.config.Memory, r.m.config.Memory = 800, 800
	r.c.Coins = []int{7, 0, 3, -5}
	c.Coins[0], c.Coins[1] = 0, 7
	r.m.config.Coins = r.c.Coins
	r.m.flush()
	for i := range 40 {
		r.commit(t, put(fmt.Sprint(i), "x"))
		r.wantHeld(t, "P17.6: with coins")
	}
	r.again(t)
	r.wantAll(t, "P17.6: with coins, opened again")
}

// TestClose: nothing can be done any more, and the budget holds nothing; a second time nothing happens.
func TestClose(t *testing.T) {
	r := atLevel(t, 1, put("a", "b"))
	r.commit(t, put("c", "d"))
	r.wantRead(t, "P17.7: ahead of Close")
	v, b := r.s.Version(), r.s.Budget()
	wantOK(t, b.Reserve(budget.Engine, 4096))
	if b.Of(budget.Table) == 0 || b.Of(budget.Cache) == 0 {
		t.Fatalf("P17.6: in memory are %d and %d bytes", b.Of(budget.Table), b.Of(budget.Cache))
	}
	for range 3 {
		r.s.Close()
		if b.Used() != 0 || b.Of(budget.Engine) != 0 || r.s.Held() != 0 || r.s.Budget() != b {
			t.Fatalf("P17.7: the budget of a closed store holds %d", b.Used())
		}
		r.wantClosed(t)
		wantOK(t, b.Reserve(budget.Scan, 5), b.Release(budget.Scan, 5))
	}
	if r.s.Seq() != 2 || version.Put(r.s.Version().Whole()) != version.Put(v.Whole()) {
		t.Errorf("P17.7: a closed store tells another Seq or Version")
	}
	r.s.Now(5)
	r.s.Release(r.s.Snap())
	r.again(t)
	r.wantAll(t, "P17.7: behind Close")
}

func (r *rig) wantClosed(t *testing.T) {
	t.Helper()
	was := r.d.List()
	for _, items := range [][]api.Entry{nil, {put("a", "b")}, {put("", "")}, slices.Repeat([]api.Entry{put("a", "b")}, 65)} {
		if seq, e := r.s.Commit(items...); seq != 0 || e != api.ErrClosed {
			t.Errorf("P17.2: Commit of a closed store is %d, %d", seq, e)
		}
	}
	for _, key := range []string{"a", "c", ""} {
		if x, is, e := r.s.Get(key, Latest); x != (api.Entry{}) || is || e != api.ErrClosed {
			t.Errorf("P17.3: Get of a closed store is %v, %v, %d", x, is, e)
		}
	}
	for most := range 2 {
		if l, e := r.s.Scan("", "", Latest, most); len(l) > 0 || e != api.ErrClosed {
			t.Errorf("P17.3: Scan of a closed store is %v, %d", l, e)
		}
	}
	if x, is, e := r.s.Next("", "", Latest); x != (api.Entry{}) || is || e != api.ErrClosed {
		t.Errorf("P17.3: Next of a closed store is %v, %v, %d", x, is, e)
	}
	wantError(t, "P17.5: Flush of a closed store", r.s.Flush(), api.ErrClosed)
	if is, e := r.s.Step(); is || e != api.ErrClosed {
		t.Errorf("P17.5: Step of a closed store is %v, %d", is, e)
	}
	if !slices.Equal(r.d.List(), was) {
		t.Errorf("P17.7: a closed store changes the disk")
	}
}

// TestApart: two stores on disks of their own have nothing to do with one another.
func TestApart(t *testing.T) {
	a, b := newRig(t, wide()), newRig(t, wide())
	for i := range 30 {
		a.commit(t, put(fmt.Sprint(i), "a"))
		if i%3 == 0 {
			b.commit(t, put(fmt.Sprint(i), "b"), gone(fmt.Sprint(i-3)))
		}
		if i%7 == 0 {
			a.flush(t)
			b.flush(t)
			b.step(t)
		}
		if i == 20 {
			a.s.Close()
			a.again(t)
		}
		a.wantAll(t, "P2: the one")
		b.wantAll(t, "P2: the other")
	}
}
