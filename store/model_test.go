package store

import (
	"fmt"
	"math/rand"
	"strings"
	"testing"

	"oxbow/api"
	"oxbow/disk"
	"oxbow/pick"
)

// anyConfig: one by chance, in which what the tests do has room.
func anyConfig(r *rand.Rand) Config {
	c := Config{Limit: 1 << 20, Memory: 500 + r.Int63n(1500), Block: 1 + r.Intn(300), Bits: 1 + r.Intn(16), File: 1 + r.Int63n(400)}
	c.Limits = pick.Limits{Zero: r.Intn(4), Base: r.Int63n(800), Ratio: r.Int63n(4)}
	for range r.Intn(5) {
		c.Coins = append(c.Coins, r.Intn(20)-5)
	}
	return c
}

// anyItem: a change by chance, of few keys.
func anyItem(r *rand.Rand) api.Entry {
	key := fmt.Sprintf("k%02d", r.Intn(25))
	switch r.Intn(6) {
	case 0, 1:
		return gone(key)
	case 2:
		return till(key, "till", 1+r.Int63n(60))
	}
	return put(key, strings.Repeat("v", r.Intn(9))+fmt.Sprint(r.Intn(100)))
}

func anyItems(r *rand.Rand) []api.Entry {
	l := make([]api.Entry, r.Intn(4))
	for i := range l {
		l[i] = anyItem(r)
	}
	return l
}

// anyCall: a call by chance, of a store whose disk refuses nothing.
func (r *rig) anyCall(t *testing.T, by *rand.Rand) {
	t.Helper()
	switch by.Intn(20) {
	case 0:
		r.flush(t)
	case 1, 2, 3:
		r.step(t)
	case 4:
		if len(r.m.snaps) < 64 {
			r.snap(t)
		}
	case 5:
		r.release(t, by.Int63n(r.m.seq()+1))
	case 6:
		r.now(by.Int63n(50))
	case 7:
		if by.Intn(3) == 0 {
			r.again(t)
		}
	default:
		if l := anyItems(by); len(l) > 0 {
			r.commit(t, l...)
		}
	}
}

// TestModel: by chance, any calls one behind the other: all that is read, held and on the disk is as the model tells.
func TestModel(t *testing.T) {
	for seed := range int64(40) {
		t.Run(fmt.Sprint(seed), func(t *testing.T) {
			t.Parallel()
			by := rand.New(rand.NewSource(1700 + seed))
			r := newRig(t, anyConfig(by))
			for i := range 250 {
				r.anyCall(t, by)
				r.wantHeld(t, fmt.Sprint("call ", i))
				if by.Intn(6) == 0 {
					r.wantAll(t, fmt.Sprint("call ", i))
				}
			}
			r.wantSpans(t, by)
		})
	}
}

// wantSpans: Scan and Next of spans by chance.
func (r *rig) wantSpans(t *testing.T, by *rand.Rand) {
	t.Helper()
	for range 100 {
		seqs := append([]int64{Latest}, r.m.snaps...)
		seq := seqs[by.Intn(len(seqs))]
		from, to, most := fmt.Sprintf("k%02d", by.Intn(26)), fmt.Sprintf("k%02d", by.Intn(30)), by.Intn(30)-1
		if by.Intn(4) == 0 {
			to = ""
		}
		got, e := r.s.Scan(from, to, seq, 1<<62)
		wantError(t, "P17.3: Scan", e, api.OK)
		what := fmt.Sprintf("P17.3: Scan from %q to %q at %d", from, to, seq)
		r.wantLike(t, what, got, from, to, seq)
		some, e := r.s.Scan(from, to, seq, most)
		wantError(t, "P17.3: Scan", e, api.OK)
		if want := got[:min(max(most, 0), len(got))]; fmt.Sprint(some) != fmt.Sprint(want) {
			t.Fatalf("%s: the first %d are %v, not %v", what, most, some, want)
		}
		x, is, e := r.s.Next(from, to, seq)
		wantError(t, "P17.3: Next", e, api.OK)
		if is != (len(got) > 0) || is && x != got[0] || !is && x != (api.Entry{}) {
			t.Fatalf("%s: Next is %v, %v of %v", what, x, is, got)
		}
	}
}

// release: as the model has it.
func (r *rig) release(t *testing.T, seq int64) {
	t.Helper()
	if is := r.s.Release(seq); is != r.m.release(seq) {
		t.Fatalf("P17.4: Release of %d is %v, with the snaps %v", seq, is, r.m.snaps)
	}
}

func (m *model) release(seq int64) bool {
	for i, snap := range m.snaps {
		if snap == seq {
			m.snaps = append(m.snaps[:i:i], m.snaps[i+1:]...)
			return true
		}
	}
	return false
}

// anyLoss: a Cut, a Break, or nothing, to come.
func anyLoss(d *disk.Disk, by *rand.Rand) {
	switch by.Intn(4) {
	case 0:
		d.Cut(1+by.Intn(14), by.Intn(6), by.Intn(300), by.Intn(300))
	case 1:
		d.Break(1 + by.Intn(14))
	}
}

// TestLives: by chance, losses of power and calls that are refused, one behind the other: what was told as made is there when the store is opened again, and the last that wasn't told is there whole, or not at all.
func TestLives(t *testing.T) {
	for seed := range int64(60) {
		t.Run(fmt.Sprint(seed), func(t *testing.T) {
			t.Parallel()
			by := rand.New(rand.NewSource(17000 + seed))
			c := anyConfig(by)
			r := &rig{d: disk.New(1 << 20), c: c, m: newModel(c)}
			for range 60 {
				r.live(t, by)
			}
		})
	}
}

// live: a store is opened, and used up to an error, or as long as chance lets it.
func (r *rig) live(t *testing.T, by *rand.Rand) {
	t.Helper()
	anyLoss(r.d, by)
	s, e := Open(r.d, r.c)
	if e != api.OK {
		r.wantRefused(t, "P17.1: Open", e)
		r.restart(by)
		return
	}
	r.s = s
	r.m.reopened()
	r.recover(t)
	for range by.Intn(40) {
		if e := r.tried(t, by); e != api.OK {
			r.wantRefused(t, "P17.7: a call", e)
			r.wantAlone(t, "P17.7")
			r.wantReadAlone(t)
			break
		}
	}
	r.restart(by)
}

// restart: the power is on, and perhaps was off in between.
func (r *rig) restart(by *rand.Rand) {
	if by.Intn(2) == 0 {
		r.d.Crash(by.Intn(6), by.Intn(300), by.Intn(300))
	}
	r.d.On()
}

// wantReadAlone: with the power on all that was told is read.
func (r *rig) wantReadAlone(t *testing.T) {
	t.Helper()
	r.d.On()
	r.wantRead(t, "P17.7: a store that is to be read alone")
}

func (r *rig) wantRefused(t *testing.T, what string, e api.Errno) {
	t.Helper()
	if e != api.ErrPower && e != api.ErrFull {
		t.Fatalf("%s is %d", what, e)
	}
}

// recover: what was found is all that was told, perhaps with the last that wasn't; and what is in memory is as the disk tells.
func (r *rig) recover(t *testing.T) {
	t.Helper()
	if last := r.m.untold; r.s.Seq() != r.m.seq() && len(last) > 0 {
		for _, x := range last {
			x.Seq = r.m.seq() + 1
			r.m.changes = append(r.m.changes, x)
		}
	}
	r.m.untold = nil
	r.m.flush()
	for _, x := range r.m.changes[min(r.s.Version().Seq, r.m.seq()):] {
		r.m.list.Put(x)
	}
	r.wantAll(t, "P17.1: behind Open")
}

// tried: a call by chance, whose error may be the disk's.
func (r *rig) tried(t *testing.T, by *rand.Rand) api.Errno {
	t.Helper()
	switch by.Intn(12) {
	case 0:
		e := r.s.Flush()
		if e == api.OK {
			r.m.flush()
		}
		return e
	case 1, 2, 3:
		is, e := r.s.Step()
		if is && e != api.OK {
			t.Fatalf("P17.5: Step is true, %d", e)
		}
		return e
	case 4:
		r.now(by.Int63n(50))
		return api.OK
	}
	items := append(anyItems(by), anyItem(by))
	seq, e := r.s.Commit(items...)
	if e != api.OK {
		r.m.untold = items
		if seq != 0 || r.s.Seq() != r.m.seq() {
			t.Fatalf("P17.2: Commit that is refused is %d; Seq is %d, not %d", seq, r.s.Seq(), r.m.seq())
		}
		return e
	}
	r.m.commit(items)
	return api.OK
}
