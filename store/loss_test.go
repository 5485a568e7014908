package store

import (
	"fmt"
	"math"
	"testing"

	"oxbow/api"
	"oxbow/budget"
	"oxbow/disk"
	"oxbow/pick"
	"oxbow/wal"
)

// scene is a call of a store that changes the disk.
type scene struct {
	what  string
	make  func(t *testing.T) *rig  // a store ahead of the call; or a disk alone, if the call is an Open
	items []api.Entry              // what the call commits, if it is a Commit
	do    func(s *Store) api.Errno // the call, if it is neither a Commit nor an Open
}

// small: a configuration for scenes whose files are short.
func small() Config {
	return Config{Limit: 1 << 16, Memory: 330, Block: 20, Bits: 8, File: 20, Limits: pick.Limits{Zero: 2, Base: 1 << 40, Ratio: 2}, Coins: []int{1}}
}

func flushing(s *Store) api.Errno { return s.Flush() }

func stepping(s *Store) api.Errno {
	_, e := s.Step()
	return e
}

// begun: a store with a table in each of two levels, and a change in memory.
func begun(t *testing.T) *rig {
	t.Helper()
	r := newRig(t, small())
	r.commit(t, put("a", "1"), put("b", "1"))
	r.flush(t)
	r.commit(t, gone("a"), put("c", "2"))
	r.flush(t)
	r.step(t)
	r.commit(t, put("b", "3"))
	r.flush(t)
	r.commit(t, put("d", "4"), gone("c"))
	return r
}

// found: the same, opened anew, so that its manifest may be told of nothing more.
func found(t *testing.T) *rig {
	r := begun(t)
	r.again(t)
	return r
}

// full: the same, with level 0 full.
func full(t *testing.T) *rig {
	r := begun(t)
	r.flush(t)
	r.commit(t, put("e", "5"))
	return r
}

// fullBelow: the same, with level 1 full.
func fullBelow(t *testing.T) *rig {
	r := full(t)
	r.step(t)
	r.s.config.Limits.Base = 1
	return r
}

// cutOff: the same, with a log that is cut off behind what it has.
func cutOff(t *testing.T) *rig {
	r := begun(t)
	r.d.Cut(1, 0, 5)
	if _, e := r.s.Commit(put("lost", "lost")); e != api.ErrPower {
		t.Fatalf("Commit without power is %d", e)
	}
	r.d.On()
	r.again(t)
	if !r.s.cut {
		t.Fatalf("the log isn't cut off")
	}
	return r
}

// littered: the same, with files that don't count.
func littered(t *testing.T) *rig {
	r := begun(t)
	litter(t, r.d, "current-next", "log-00000077", "manifest-00000077", "table-00000077", wal.File("table", r.s.Version().Next))
	return r
}

// closed: a disk on which a store stands that is to be opened.
func closed(make func(t *testing.T) *rig) func(t *testing.T) *rig {
	return func(t *testing.T) *rig {
		r := make(t)
		r.s.Close()
		r.m.reopened()
		r.s = nil
		return r
	}
}

// bare: a disk without a store.
func bare(names ...string) func(t *testing.T) *rig {
	return func(t *testing.T) *rig {
		r := &rig{d: disk.New(1 << 20), c: small(), m: newModel(small())}
		litter(t, r.d, names...)
		return r
	}
}

// scenes: each call that changes the disk, also where it must do more than most.
func scenes() []scene {
	one, more := []api.Entry{put("a", "new")}, []api.Entry{gone("b"), put("x", "new"), till("a", "new", 50)}
	l := []scene{
		{"Flush", begun, nil, flushing},
		{"Flush of a store that was found", found, nil, flushing},
		{"Flush of a log that is cut off", cutOff, nil, flushing},
		{"Step of level 0", full, nil, stepping},
		{"Step of level 1", fullBelow, nil, stepping},
		{"Step of a store that was found", func(t *testing.T) *rig { r := full(t); r.again(t); return r }, nil, stepping},
		{"Open of a new store", bare(), nil, nil},
		{"Open of a new store on a littered disk", bare("log-00000001", "manifest-00000001", "table-00000000", "current-next"), nil, nil},
		{"Open", closed(begun), nil, nil},
		{"Open of a log that is cut off", closed(cutOff), nil, nil},
		{"Open of a littered disk", closed(littered), nil, nil},
	}
	for _, make := range []struct {
		what string
		rig  func(t *testing.T) *rig
	}{{"a store", begun}, {"a store that was found", found}, {"a store whose log is cut off", cutOff}} {
		l = append(l, scene{"Commit of one item into " + make.what, make.rig, one, nil}, scene{"Commit into " + make.what, make.rig, more, nil})
	}
	return l
}

// call: the scene's call is made.
func (x scene) call(r *rig) (e api.Errno) {
	switch {
	case x.do != nil:
		e = x.do(r.s)
	case x.items != nil:
		_, e = r.s.Commit(x.items...)
	default:
		r.s, e = Open(r.d, r.c)
	}
	return e
}

func (x scene) isOpen() bool { return x.do == nil && x.items == nil }

// eachScene: all of them, at once.
func eachScene(t *testing.T, test func(t *testing.T, x scene)) {
	for _, x := range scenes() {
		t.Run(x.what, func(t *testing.T) {
			t.Parallel()
			test(t, x)
		})
	}
}

// wantLater: the store opened again has what was told, perhaps with the items that weren't; and it goes on, whatever power is lost behind that.
func (r *rig) wantLater(t *testing.T, what string, items []api.Entry) {
	t.Helper()
	r.m.reopened()
	r.m.untold = items
	r.open(t)
	r.recover(t)
	// What Open found lasts, also what its writer was told an error of.
	r.d.Crash(0)
	r.again(t)
	r.wantRead(t, what+", opened twice")
	r.wantOn(t, what)
}

// wantOn: the store goes on, whatever power is lost.
func (r *rig) wantOn(t *testing.T, what string) {
	t.Helper()
	r.commit(t, put("later", "1"), gone("d"))
	r.wantAll(t, what+", and a Commit")
	r.d.Crash(0)
	r.again(t)
	r.wantAll(t, what+", and a Commit, opened again")
	r.flush(t)
	r.step(t)
	r.d.Crash(0)
	r.again(t)
	r.wantAll(t, what+", and a Flush and a Step, opened again")
}

// wantRest: behind a call that was refused the store, if there is one, is to be read alone, and what was told is read in it.
func (r *rig) wantRest(t *testing.T, what string, isOpen bool) {
	t.Helper()
	if isOpen {
		if r.s != nil {
			t.Fatalf("%s: P17.1: Open tells a store", what)
		}
		return
	}
	r.wantAlone(t, what)
	r.wantRead(t, what)
	r.wantHeldAlone(t, what)
}

// wantHeldAlone: what is in memory is charged, also where it isn't known whether a table has it.
func (r *rig) wantHeldAlone(t *testing.T, what string) {
	t.Helper()
	if r.s.Held() != r.s.Budget().Used() || r.s.Budget().Of(budget.Scan) != 0 {
		t.Fatalf("%s: P17.6: Held is %d, of %d", what, r.s.Held(), r.s.Budget().Used())
	}
}

// TestEachCallIsRefused: the disk refuses each call of each scene in turn; then the power may be lost, too.
func TestEachCallIsRefused(t *testing.T) {
	eachScene(t, func(t *testing.T, x scene) {
		calls := x.calls(t)
		if calls < 2 {
			t.Fatalf("%s makes %d calls of the disk", x.what, calls)
		}
		for at := range calls {
			x.refusedAt(t, at+1, func(*disk.Disk) {})
			for names := range 6 {
				for _, bytes := range []int{0, 1, 30, math.MaxInt} {
					x.refusedAt(t, at+1, func(d *disk.Disk) { d.Crash(names, bytes) })
				}
			}
		}
	})
}

// refusedAt: the scene with one call of the disk refused, and what may come behind it.
func (x scene) refusedAt(t *testing.T, at int, behind func(d *disk.Disk)) {
	t.Helper()
	r := x.make(t)
	r.d.Break(at)
	what := fmt.Sprintf("P17.7: %s, whose call %d is refused", x.what, at)
	wantError(t, what, x.call(r), api.ErrFull)
	r.wantRest(t, what, x.isOpen())
	behind(r.d)
	if at%2 == 0 {
		r.wantLater(t, what, x.items)
	}
	// What is built on what Open found lasts too.
	r.m.reopened()
	r.m.untold = x.items
	r.open(t)
	r.recover(t)
	r.wantOn(t, what)
	r.wantLater(t, what, nil)
}

// calls: how many calls of the disk that change the scene makes.
func (x scene) calls(t *testing.T) int {
	t.Helper()
	for at := 1; ; at++ {
		r := x.make(t)
		r.d.Break(at)
		if x.call(r) == api.OK {
			return at - 1
		}
	}
}

// someBytes: how much of what isn't synced may last.
func someBytes() []int {
	l := []int{math.MaxInt, math.MinInt, -2}
	for n := range 40 {
		l = append(l, n)
	}
	for n := 41; n < 200; n += 6 {
		l = append(l, n)
	}
	return l
}

// TestPowerFailsAtEachCall: the power fails at each call of each scene, with each loss of what isn't synced.
func TestPowerFailsAtEachCall(t *testing.T) {
	eachScene(t, func(t *testing.T, x scene) {
		elder, newer := 0, 0
		for at := range x.calls(t) {
			seen := map[string]bool{}
			for names := range 6 {
				for _, bytes := range someBytes() {
					r := x.make(t)
					r.d.Cut(at+1, names, bytes)
					what := fmt.Sprintf("P17.7: %s, without power at its call %d, %d, %d", x.what, at+1, names, bytes)
					wantError(t, what, x.call(r), api.ErrPower)
					r.d.On()
					left := fingerprint(r.d)
					if seen[left] {
						continue
					}
					seen[left] = true
					seq := r.m.seq()
					r.wantRest(t, what, x.isOpen())
					r.wantLater(t, what, x.items)
					// wantLater makes two changes itself.
					if r.m.seq() == seq+2 {
						elder++
					} else {
						newer++
					}
				}
			}
		}
		if elder == 0 || (newer == 0) != (x.items == nil) {
			t.Errorf("P17.1: what wasn't told is there %d times, and %d times it isn't", newer, elder)
		}
	})
}

// TestPowerAtOpens: the power fails at each Open again and again.
func TestPowerAtOpens(t *testing.T) {
	for _, make := range []func(t *testing.T) *rig{bare(), closed(begun), closed(cutOff), closed(littered)} {
		for names := range 4 {
			r := make(t)
			for at := 1; ; at++ {
				r.d.Cut(at, names, 7*names)
				s, e := Open(r.d, r.c)
				if e == api.OK {
					r.s = s
					r.d.On()
					break
				}
				if s != nil || e != api.ErrPower {
					t.Fatalf("P17.1: Open without power is %v, %d", s, e)
				}
				r.d.On()
			}
			r.wantAll(t, "P17.1: Open behind many without power")
		}
	}
}

// TestReadsWithoutPower: what is in memory is read without power; what isn't is ErrPower, and then the store is to be read alone.
func TestReadsWithoutPower(t *testing.T) {
	none := api.Entry{}
	for name, read := range map[string]func(s *Store) (api.Entry, bool, api.Errno){
		"Get":  func(s *Store) (api.Entry, bool, api.Errno) { return s.Get("b", Latest) },
		"Next": func(s *Store) (api.Entry, bool, api.Errno) { return s.Next("", "", Latest) },
		"Scan": func(s *Store) (api.Entry, bool, api.Errno) {
			l, e := s.Scan("", "", Latest, 10)
			return none, len(l) > 0, e
		},
		"Step": func(s *Store) (api.Entry, bool, api.Errno) {
			s.config.Limits.Zero = 1
			is, e := s.Step()
			return none, is, e
		},
	} {
		r := begun(t)
		r.d.Cut(1, 0)
		wantError(t, "a call of the disk", r.d.SyncDir(), api.ErrPower)
		if x, is, e := r.s.Get("d", Latest); !is || e != api.OK || x.Value != "4" {
			t.Errorf("P17.7: Get of what is in memory is %v, %v, %d", x, is, e)
		}
		if x, is, e := read(r.s); x != none || is || e != api.ErrPower {
			t.Errorf("P17.7: without power %s is %v, %v, %d", name, x, is, e)
		}
		r.d.On()
		r.wantAlone(t, name+" without power")
		r.wantRead(t, "P17.7: with power again")
		r.again(t)
		r.wantAll(t, "P17.7: opened again")
	}
}

// TestLongCutOff: of a log that is cut off behind many changes all are there, and what is committed behind them, which makes a new log once.
func TestLongCutOff(t *testing.T) {
	for _, n := range []int{0, 1, 63, 64, 65, 128, 200} {
		r := newRig(t, wide())
		r.commit(t, put("first", ""))
		r.flush(t)
		for i := range n {
			r.commit(t, put(fmt.Sprint((i*37)%n), "x"))
		}
		r.d.Cut(1, 0, 3)
		if _, e := r.s.Commit(put("lost", "lost")); e != api.ErrPower {
			t.Fatalf("Commit without power is %d", e)
		}
		r.d.On()
		r.again(t)
		was := fingerprint(r.d)
		r.wantAll(t, "P17.1: a log that is cut off")
		if fingerprint(r.d) != was {
			t.Errorf("P17.1: reading changes the disk")
		}
		r.commit(t, put("next", "x"))
		r.wantAll(t, "P17.2: a Commit behind a log that is cut off")
		// The log isn't made anew again: a Commit makes two calls of the disk.
		r.wantCalls(t, 2)
		r.again(t)
		r.wantAll(t, "P17.1: opened again")
		r.wantCalls(t, 2)
	}
	r := cutOff(t)
	r.flush(t)
	r.wantCalls(t, 2)
}

// wantCalls: a Commit makes so many calls of the disk that change.
func (r *rig) wantCalls(t *testing.T, n int) {
	t.Helper()
	r.d.Break(n + 1)
	r.commit(t, put("calls", "x"))
	wantError(t, "the call of the disk behind a Commit", r.d.SyncDir(), api.ErrFull)
}
