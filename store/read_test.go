package store

import (
	"fmt"
	"math"
	"slices"
	"strings"
	"testing"

	"oxbow/api"
	"oxbow/budget"
	"oxbow/frame"
	"oxbow/wal"
)

// layered: a store that has changes of the same keys in memory, in two tables of level 0, and in each further level, each with a snap.
func layered(t *testing.T, c Config) *rig {
	t.Helper()
	r := newRig(t, c)
	for i, down := range []int{4, 3, 2, 1, 1, 0} {
		for j := range 9 {
			key := fmt.Sprintf("k%d%d", j%3, (i*j)%5)
			switch (i + j) % 4 {
			case 0:
				r.commit(t, gone(key))
			case 1:
				r.commit(t, till(key, fmt.Sprint(i), int64(10*j)))
			default:
				r.commit(t, put(key, fmt.Sprint("value ", i, j)))
			}
		}
		r.commit(t, put(fmt.Sprint("own ", i), ""), gone("k00"), put("k99", fmt.Sprint(i)))
		r.snap(t)
		r.sink(t, down)
	}
	return r
}

// calm: a configuration whose Limits call for no Step.
func calm() Config {
	c := wide()
	c.Limits.Zero, c.Limits.Base = 1000, 1<<40
	return c
}

// TestLayers: Get, Scan and Next at Latest and at each snap, at several times, of what is in memory, in tables of each level, and in both.
func TestLayers(t *testing.T) {
	for _, block := range []int{1, 20, 60, 4096} {
		for _, file := range []int64{1, 100, 1 << 20} {
			c := calm()
			c.Block, c.File = block, file
			r := layered(t, c)
			for level, tables := range r.s.Version().Levels {
				if len(tables) == 0 || level == 0 && len(tables) != 2 {
					t.Fatalf("in level %d are the tables %v", level, tables)
				}
			}
			if r.m.list.Len() == 0 {
				t.Fatalf("nothing is in memory")
			}
			for _, now := range []int64{0, 10, 11, 40, 41, 1000} {
				r.now(now)
				r.wantAll(t, fmt.Sprintf("P17.3: blocks of %d, files of %d, at the time %d", block, file, now))
			}
		}
	}
}

// TestSpans: each span of keys, with each most.
func TestSpans(t *testing.T) {
	r := layered(t, calm())
	ends := []string{"", "\x00", "k", "k0", "k00", "k01", "k010", "k1", "k2", "k24", "k99", "own", "own 3", "own 5", "own 50", "z", strings.Repeat("\xff", 70)}
	for _, seq := range append([]int64{Latest}, r.m.snaps...) {
		for _, from := range ends {
			for _, to := range ends {
				want := r.m.span(from, to, seq)
				for _, most := range []int{math.MinInt, -1, 0, 1, 2, len(want) - 1, len(want), len(want) + 1, math.MaxInt} {
					got, e := r.s.Scan(from, to, seq, most)
					if e != api.OK || !slices.Equal(got, want[:min(max(most, 0), len(want))]) {
						t.Fatalf("P17.3: Scan from %q to %q at %d, %d, is %v, %d", from, to, seq, most, got, e)
					}
				}
				x, is, e := r.s.Next(from, to, seq)
				if e != api.OK || is != (len(want) > 0) || is && x != want[0] || !is && x != (api.Entry{}) {
					t.Fatalf("P17.3: Next from %q to %q at %d is %v, %v, %d", from, to, seq, x, is, e)
				}
			}
		}
	}
}

// TestAnySeq: of a number that is no snap nothing is promised but an end.
func TestAnySeq(t *testing.T) {
	r := layered(t, calm())
	for _, seq := range []int64{math.MinInt64, -1, 0, 1, 7, 30, 1000, Latest - 1} {
		r.s.Get("k00", seq)
		r.s.Scan("", "", seq, 1000)
		r.s.Next("", "", seq)
	}
	r.wantAll(t, "P17.3: behind reading at any numbers")
}

// TestOwnMemory: what is answered shares no memory with the store's: that is told by reading it again.
func TestOwnMemory(t *testing.T) {
	r := layered(t, calm())
	for range 3 {
		l, e := r.s.Scan("", "", Latest, 1000)
		wantError(t, "P17.3: Scan", e, api.OK)
		for i := range l {
			l[i] = put("other", "other")
		}
		r.wantAll(t, "P17.3: behind a Scan that is written into")
	}
}

// TestLongChains: a key whose entries fill several blocks, and a span of keys that are all gone.
func TestLongChains(t *testing.T) {
	c := calm()
	c.Memory, c.Block = 1<<16, 100
	r := newRig(t, c)
	r.commit(t, put("a", "first"), put("c", "first"))
	for i := range 50 {
		if i%7 == 0 {
			r.snap(t)
		}
		r.commit(t, put("b", fmt.Sprint("the value of ", i)), gone(fmt.Sprintf("b%02d", i)))
	}
	for _, down := range []int{0, 1, 2} {
		r.sink(t, down)
		r.wantAll(t, "P17.3: long chains")
	}
	if x, is, e := r.s.Next("b\x00", "", Latest); x.Key != "c" || !is || e != api.OK {
		t.Errorf("P17.3: Next behind what is gone is %v, %v, %d", x, is, e)
	}
}

// TestSmallBudget: where a Scan doesn't fit it is ErrBudget, and changes nothing; Get and Next need no more than is in memory.
func TestSmallBudget(t *testing.T) {
	for _, left := range []int64{0, 1, 40, 100} {
		r := layered(t, calm())
		r.s.Close()
		r.again(t)
		b := r.s.Budget()
		wantOK(t, b.Reserve(budget.Engine, b.Left()-left))
		for range 2 {
			if l, e := r.s.Scan("", "", Latest, 1000); len(l) > 0 || e != api.ErrBudget {
				t.Fatalf("P17.3: Scan with %d bytes left is %v, %d", left, l, e)
			}
			if l, e := r.s.Scan("", "", Latest, 0); len(l) > 0 || e != api.OK {
				t.Fatalf("P17.3: Scan of none with %d bytes left is %v, %d", left, l, e)
			}
			if l, e := r.s.Scan("zzz", "", Latest, 1000); len(l) > 0 || e != api.OK {
				t.Fatalf("P17.3: Scan of what isn't there with %d bytes left is %v, %d", left, l, e)
			}
			r.wantHeld(t, "P17.6: behind a Scan that is ErrBudget")
			r.wantOneByOne(t)
			r.wantHeld(t, "P17.6: behind Gets and Nexts")
		}
		if is, e := r.s.Step(); is || e != api.OK {
			t.Errorf("P17.7: behind ErrBudget Step of a store without a full level is %v, %d", is, e)
		}
		wantOK(t, b.Change(budget.Engine, 0))
		r.wantRead(t, "P17.3: with room again")
	}
}

// wantOneByOne: Get of each key, and all keys by Next, as the model tells.
func (r *rig) wantOneByOne(t *testing.T) {
	t.Helper()
	for _, key := range r.m.keys() {
		want, alive, _ := r.m.has(key, Latest)
		if x, is, e := r.s.Get(key, Latest); is != alive || is && x != want || e != api.OK {
			t.Fatalf("P17.3: Get of %q is %v, %v, %d", key, x, is, e)
		}
	}
	from := ""
	for _, want := range r.m.span("", "", Latest) {
		x, is, e := r.s.Next(from, "", Latest)
		if x != want || !is || e != api.OK {
			t.Fatalf("P17.3: Next from %q is %v, %v, %d", from, x, is, e)
		}
		from = x.Key + "\x00"
	}
}

// TestSmallLimit: with each Limit that a store without a log can have, small or great, all can be read; a Scan is ErrBudget as long as what it is to tell doesn't fit, and the same behind it.
func TestSmallLimit(t *testing.T) {
	r := layered(t, calm())
	r.flush(t)
	all := r.m.span("", "", Latest)
	size := int64(0)
	for _, x := range all {
		size += int64(len(x.Key) + len(x.Value))
	}
	fits := false
	for _, limit := range []int64{-1, 0, 1, 50, size - 1, size, 2 * size, 4 * size, 200 * int64(len(all)), 1 << 16} {
		r.c.Limit = limit
		r.m.config.Limit = limit
		r.again(t)
		for range 2 {
			r.wantOneByOne(t)
			r.wantHeld(t, fmt.Sprint("P17.6: with the Limit ", limit))
			l, e := r.s.Scan("", "", Latest, 1000)
			switch {
			case e == api.OK && limit >= size && slices.Equal(l, all):
				fits = true
			case e != api.ErrBudget || len(l) > 0 || fits:
				t.Fatalf("P17.3: Scan with the Limit %d is %v, %d", limit, l, e)
			}
			r.wantHeld(t, fmt.Sprint("P17.6: with the Limit ", limit))
		}
	}
	if !fits {
		t.Errorf("P17.3: Scan is ErrBudget at each Limit")
	}
}

// TestCache: what was read is read again without the disk, as long as there is room for it.
func TestCache(t *testing.T) {
	r := layered(t, calm())
	r.again(t)
	r.wantOneByOne(t)
	held := r.s.Held()
	if held <= r.m.list.Size() {
		t.Fatalf("P17.6: behind reading Held is %d", held)
	}
	for _, file := range r.s.Version().Files() {
		name := wal.File("table", file)
		s, _ := r.d.Read(name)
		for bit := range len(s) {
			r.d.Spoil(name, 8*bit)
		}
	}
	r.wantOneByOne(t)
	if r.s.Held() != held {
		t.Errorf("P17.6: reading the same again Held is %d, not %d", r.s.Held(), held)
	}
}

// TestSpoilt: with any bit of a table turned what is read is what was put, or an error, behind which the store is to be read alone; what stands elsewhere is read all the same.
func TestSpoilt(t *testing.T) {
	c := calm()
	c.Block = 30
	r := layered(t, c)
	tables := r.s.Version().Levels
	for level := range api.Levels {
		name := wal.File("table", tables[level][0].File)
		s, e := r.d.Read(name)
		wantError(t, "Read", e, api.OK)
		for bit := 0; bit < 8*len(s); bit += 5 {
			r.m.reopened()
			r.open(t)
			r.d.Spoil(name, bit)
			r.wantSpoilt(t, fmt.Sprintf("P17.7: the bit %d of %s", bit, name))
			r.d.Spoil(name, bit)
			r.wantRead(t, "P17.7: the bit is turned back")
		}
	}
}

func (r *rig) wantSpoilt(t *testing.T, what string) {
	t.Helper()
	right, faults := 0, 0
	for _, key := range r.m.keys() {
		want, alive, _ := r.m.has(key, Latest)
		switch x, is, e := r.s.Get(key, Latest); {
		case e == api.OK && is == alive && (x == want || !is):
			right++
		case (e == api.ErrSum || e == api.ErrForm || e == api.ErrShort) && !is && x == (api.Entry{}):
			faults++
		default:
			t.Fatalf("%s: Get of %q is %v, %v, %d", what, key, x, is, e)
		}
	}
	if right == 0 {
		t.Fatalf("%s: nothing is read", what)
	}
	l, e := r.s.Scan("", "", Latest, 1000)
	if e == api.OK || len(l) > 0 {
		t.Fatalf("%s: Scan is %v, %d", what, l, e)
	}
	x, is, e := r.s.Next("", "", Latest)
	if want := r.m.span("", "", Latest)[0]; e == api.OK && x != want || e != api.OK && is {
		t.Fatalf("%s: Next is %v, %v, %d", what, x, is, e)
	}
	r.wantAlone(t, what)
}

// TestNeighbours: keys of which each is the next one that there can be.
func TestNeighbours(t *testing.T) {
	r := newRig(t, calm())
	for i := range 40 {
		r.commit(t, put("k"+strings.Repeat("\x00", i), fmt.Sprint(i)), put("k"+strings.Repeat("\x00", i)+"\x01", ""))
	}
	for _, down := range []int{0, 1, 2} {
		r.sink(t, down)
		r.wantAll(t, "P17.3: neighbours")
	}
}

// kept: how many blocks are in the cache.
func (r *rig) kept() int { return len(r.s.cache.Kept()) }

// TestNoMoreIsRead: of a table that may have what is asked for its end is read, and the blocks that may have it; of another one nothing.
func TestNoMoreIsRead(t *testing.T) {
	c := calm()
	c.Block, c.Bits = 1, 16
	r := newRig(t, c)
	r.commit(t, many(20)...)
	r.flush(t)
	for _, x := range []struct {
		what string
		read func() (api.Entry, bool, api.Errno)
		want int
	}{
		{"Get of a key that is there", func() (api.Entry, bool, api.Errno) { return r.s.Get("007", Latest) }, 2},
		{"Get of the last key", func() (api.Entry, bool, api.Errno) { return r.s.Get("019", Latest) }, 2},
		{"Get of a key between", func() (api.Entry, bool, api.Errno) { return r.s.Get("007 is not there", Latest) }, 1},
		{"Get of a key at a snap ahead of it, which the next block might go on with", func() (api.Entry, bool, api.Errno) { return r.s.Get("007", 0) }, 3},
		{"Get of a key below", func() (api.Entry, bool, api.Errno) { return r.s.Get("", Latest) }, 0},
		{"Get of a key above", func() (api.Entry, bool, api.Errno) { return r.s.Get("1", Latest) }, 0},
		{"Next from a key on", func() (api.Entry, bool, api.Errno) { return r.s.Next("007", "", Latest) }, 2},
		{"Next from above all on", func() (api.Entry, bool, api.Errno) { return r.s.Next("1", "", Latest) }, 0},
		{"Next below all", func() (api.Entry, bool, api.Errno) { return r.s.Next("", "000", Latest) }, 0},
		{"Next of the last key", func() (api.Entry, bool, api.Errno) { return r.s.Next("019", "", Latest) }, 2},
	} {
		r.again(t)
		if _, _, e := x.read(); e != api.OK || r.kept() != x.want {
			t.Errorf("P17.3: behind %s, %d, there are %v in the cache", x.what, e, r.s.cache.Kept())
		}
	}
	// Of a level below 0 no more than one table, and of it one block, though it has a table for each key.
	r.s.config.File, r.s.config.Limits.Zero = 1, 1
	r.step(t)
	r.again(t)
	if x, is, e := r.s.Next("007", "", Latest); x.Key != "007" || !is || e != api.OK || r.kept() != 2 {
		t.Errorf("P17.3: Next in level 1 is %v, %v, %d; in the cache are %v", x, is, e, r.s.cache.Kept())
	}
}

// TestCacheGivesWay: where the cache has all that is left its blocks give way to changes, to what a Scan tells, and to what a Step merges.
func TestCacheGivesWay(t *testing.T) {
	c := calm()
	c.Limit, c.Memory, c.Block = 1500, 1500, 1
	for name, call := range map[string]func(r *rig){
		"Commit": func(r *rig) { r.commit(t, many(10)...) },
		"Scan": func(r *rig) {
			if l, e := r.s.Scan("", "", Latest, 20); len(l) != 20 || e != api.OK {
				t.Errorf("P17.3: Scan is %v, %d", l, e)
			}
		},
		"Step": func(r *rig) {
			r.s.config.Limits.Zero = 1
			if !r.step(t) {
				t.Errorf("P17.5: Step of a full level is false")
			}
		},
	} {
		r := newRig(t, c)
		r.commit(t, many(10)...)
		r.flush(t)
		for i := range 10 {
			r.commit(t, put(fmt.Sprintf("k%d", i), ""))
		}
		r.flush(t)
		r.wantOneByOne(t)
		if left := r.s.Budget().Left(); left > 400 {
			t.Fatalf("P17.6: the cache leaves %d bytes", left)
		}
		call(r)
		r.wantHeld(t, "P17.6: behind "+name)
		r.wantOneByOne(t)
		r.wantHeld(t, "P17.6: behind "+name+", and reading")
	}
}

// TestStepSpoilt: a Step of tables of which a bit is turned is an error, and merges nothing; all is there when the bit is turned back.
func TestStepSpoilt(t *testing.T) {
	c := calm()
	c.Limits.Zero = 2
	r := newRig(t, c)
	r.commit(t, put("a", "1"), put("b", "1"))
	r.flush(t)
	r.commit(t, put("a", "2"), gone("b"))
	r.flush(t)
	r.commit(t, put("c", "3"))
	name := wal.File("table", r.s.Version().Levels[0][1].File)
	s, _ := r.d.Read(name)
	for bit := range 8 * len(s) {
		r.again(t)
		r.d.Spoil(name, bit)
		was := fingerprint(r.d)
		is, e := r.s.Step()
		if is || e != api.ErrSum && e != api.ErrForm && e != api.ErrShort || fingerprint(r.d) != was {
			t.Fatalf("P17.7: with the bit %d turned Step is %v, %d", bit, is, e)
		}
		r.wantAlone(t, "a Step of a table of which a bit is turned")
		r.d.Spoil(name, bit)
		r.wantAll(t, "P17.7: the bit is turned back")
	}
	r.again(t)
	if !r.step(t) || r.step(t) {
		t.Errorf("P17.5: Step with the bit turned back")
	}
	r.wantAll(t, "P17.5: behind the Step")
}

// TestForm: a block whose check sum is right, but which isn't one: each call that reads it tells block.Parse's error.
func TestForm(t *testing.T) {
	for name, read := range map[string]func(s *Store) (bool, api.Errno){
		"Get":  func(s *Store) (bool, api.Errno) { _, is, e := s.Get("a", Latest); return is, e },
		"Next": func(s *Store) (bool, api.Errno) { _, is, e := s.Next("", "", Latest); return is, e },
		"Scan": func(s *Store) (bool, api.Errno) { l, e := s.Scan("", "", Latest, 9); return len(l) > 0, e },
		"Step": func(s *Store) (bool, api.Errno) { s.config.Limits.Zero = 1; return s.Step() },
	} {
		r := atLevel(t, 1, put("a", "1"), put("b", "1"))
		file := wal.File("table", r.s.Version().Levels[0][0].File)
		s, _ := r.d.Read(file)
		bodies, _, _ := frame.All(s)
		// One entry more than there is.
		bodies[0] = "\x06" + bodies[0][1:]
		wantOK(t, r.d.Remove(file), r.d.Create(file))
		for _, body := range bodies {
			f, e := frame.Put(body)
			wantOK(t, e, r.d.Append(file, f))
		}
		for range 2 {
			if is, e := read(r.s); is || e != api.ErrShort {
				t.Errorf("P17.7: %s of what is no block is %v, %d", name, is, e)
			}
			if name == "Step" {
				break
			}
		}
		r.wantAlone(t, name+" of what is no block")
	}
}
