package manifest

import (
	"fmt"
	"math"
	"math/rand"
	"testing"

	"oxbow/api"
	"oxbow/disk"
	"oxbow/version"
)

// scene is a step on a disk as others left it.
type scene struct {
	what string
	disk func(t *testing.T) *disk.Disk
	step step
	// What Load tells ahead of the step, and behind it.
	elder, newer version.Version
	from, to     int64
	// calls is how many calls of the disk that change the step makes.
	calls int
}

// more is an edit behind few.
func more() version.Edit {
	return version.Edit{Add: []version.Place{table(1, 6, "m", "n")}, Drop: []int64{3}, Log: 7, Next: 11, Seq: 800}
}

// grown: few behind more.
func grown(t *testing.T) version.Version { return made(t, few(t).Whole(), more()) }

// elder: a disk on which the manifest 3 tells what grown is, by a Start and an Add.
func elder(t *testing.T) *disk.Disk {
	t.Helper()
	d := started(t, 3, few(t))
	wantOK(t, Add(d, 3, more()))
	return d
}

// littered: as elder, with files that nothing needs and others, all of which last.
func littered(t *testing.T) *disk.Disk {
	t.Helper()
	d := elder(t)
	for _, name := range []string{"current-next", "log-00000002", "log-00000007", "manifest-00000002", "other", "table-00000003", "table-00000004", "table-00000007"} {
		wantOK(t, d.Create(name), d.Append(name, name), d.Sync(name))
	}
	wantOK(t, d.SyncDir())
	return d
}

// halfway: as elder, behind a Start of the manifest 4 that was refused at a call of the disk, so that what it did doesn't all last.
func halfway(t *testing.T, at int) *disk.Disk {
	t.Helper()
	d := elder(t)
	d.Break(at)
	wantError(t, "P16.1: Start that is refused", Start(d, 4, few(t)), api.ErrFull)
	return d
}

func scenes(t *testing.T) []scene {
	none, told, next := version.Version{}, grown(t), wide(t, 5)
	l := []scene{
		{"a first Start", func(t *testing.T) *disk.Disk { return disk.New(10000) }, step{op: "Start", n: 5, v: next}, none, next, 0, 5, 9},
		{"a Start behind another one", elder, step{op: "Start", n: 5, v: next}, told, next, 3, 5, 9},
		{"a Start of no table behind another one", elder, step{op: "Start", n: 5}, told, none, 3, 5, 9},
		{"a Start with a current-next there", littered, step{op: "Start", n: 5, v: next}, told, next, 3, 5, 10},
		{"an Add", elder, step{op: "Add", n: 3, e: version.Edit{Log: 8, Next: 11, Seq: 900}}, told, made(t, told.Whole(), version.Edit{Log: 8, Next: 11, Seq: 900}), 3, 3, 2},
		{"an Add of nothing", elder, step{op: "Add", n: 3, e: version.Edit{Log: 7, Next: 11, Seq: 800}}, told, told, 3, 3, 2},
		{"a Clean", littered, step{op: "Clean", n: 3, v: told}, told, told, 3, 3, 6},
		{"a Clean with nothing to remove", elder, step{op: "Clean", n: 3, v: told}, told, told, 3, 3, 0},
	}
	for at := 1; at <= 9; at++ {
		s := scene{fmt.Sprintf("a Start behind one refused at its call %d", at), func(t *testing.T) *disk.Disk { return halfway(t, at) }, step{op: "Start", n: 5, v: next}, told, next, 3, 5, 9}
		if at > 5 && at < 9 {
			s.calls++
		}
		if at == 9 {
			// The rename was done ahead of the SyncDir that was refused.
			s.elder, s.from = few(t), 4
		}
		l = append(l, s)
	}
	return l
}

// isElder: does Load tell what it told ahead of the step?
func (s scene) isElder(d *disk.Disk) bool {
	v, n, e := Load(d)
	if s.from == 0 {
		return e == api.ErrNone
	}
	return e == api.OK && n == s.from && bytesOf(v) == bytesOf(s.elder)
}

func (s scene) isNewer(d *disk.Disk) bool {
	v, n, e := Load(d)
	return e == api.OK && n == s.to && bytesOf(v) == bytesOf(s.newer)
}

// TestCallsAreCounted: each step makes just so many calls of the disk that change.
func TestCallsAreCounted(t *testing.T) {
	for _, s := range scenes(t) {
		d := s.disk(t)
		d.Break(s.calls + 1)
		wantError(t, "P16.1, P16.3: "+s.what, s.step.do(d), api.OK)
		wantError(t, "P16.1, P16.3: the call behind "+s.what, d.SyncDir(), api.ErrFull)
		if !s.isNewer(d) {
			t.Errorf("P16.2: behind %s Load tells another version", s.what)
		}
		d.Crash(0)
		if !s.isNewer(d) {
			t.Errorf("P16.4: %s doesn't last", s.what)
		}
	}
}

// TestEachCallRefused: the calls are made in the chapter's order: with each of them refused the step is, and the disk has just what those ahead of it did, also as far as it lasts.
func TestEachCallRefused(t *testing.T) {
	for _, s := range scenes(t) {
		for at := 1; at <= s.calls; at++ {
			for names := range 8 {
				for _, bytes := range []int{0, 1, 7, 8, 20, 1000} {
					a, b := s.disk(t), s.disk(t)
					a.Break(at)
					b.Break(at)
					what := fmt.Sprintf("P16.1, P16.3: %s, whose call %d is refused", s.what, at)
					wantError(t, what, s.step.do(a), api.ErrFull)
					wantError(t, what+": the model", twin(b, s.step), api.ErrFull)
					wantTwins(t, what, a, b)
					if !s.isElder(a) && !s.isNewer(a) {
						t.Errorf("P16.4: behind %s Load tells another version", what)
					}
					a.Crash(names, bytes)
					b.Crash(names, bytes)
					wantTwins(t, what+", and a loss of power", a, b)
				}
			}
		}
	}
}

// longest: the most bytes that the step appends at once: so many aren't synced then.
func (s scene) longest(t *testing.T) int {
	t.Helper()
	l, e := s.step.calls(s.disk(t))
	wantOK(t, e)
	most := 0
	for _, c := range l {
		if c.op == "Append" {
			most = max(most, len(c.other))
		}
	}
	return most
}

// ends: what a loss of power may leave of bytes of which not more than so many aren't synced.
func ends(most int) [][]int {
	l := [][]int{nil, {math.MaxInt}, {math.MinInt}, {-1}, {3, 0, 5, 1}}
	for n := range most + 1 {
		l = append(l, []int{n})
	}
	return l
}

// TestPower: the power fails at each call of a step, with every loss of what isn't synced: Load tells what it told ahead, or what it is to tell, whole, and both come about.
func TestPower(t *testing.T) {
	for _, s := range scenes(t)[:8] {
		elders, newers := 0, 0
		for at := 1; at <= s.calls; at++ {
			for _, names := range []int{0, 1, 2, 3, 4, 5, 6, -1, -2, math.MaxInt, math.MinInt} {
				for _, bytes := range ends(s.longest(t)) {
					a, b := s.disk(t), s.disk(t)
					a.Cut(at, names, bytes...)
					b.Cut(at, names, bytes...)
					what := fmt.Sprintf("P16.4: %s, with no power at its call %d, %d, %d", s.what, at, names, bytes)
					wantError(t, what, s.step.do(a), api.ErrPower)
					wantError(t, what+": the model", twin(b, s.step), api.ErrPower)
					wantNoLoad(t, what+", and on", a, api.ErrPower)
					a.On()
					b.On()
					wantTwins(t, what, a, b)
					if s.isElder(a) {
						elders++
					} else if s.isNewer(a) {
						newers++
					} else {
						t.Errorf("%s: Load tells another version", what)
					}
				}
			}
		}
		if s.calls > 0 && (elders == 0 || newers == 0 && s.from != s.to) {
			t.Errorf("P16.4: of %s Load told %d times the elder version, %d times the newer one", s.what, elders, newers)
		}
	}
}

// TestPowerOfAdd: of an Add the edit is there as soon as all bytes of its frame last, and not ahead.
func TestPowerOfAdd(t *testing.T) {
	e := version.Edit{Add: []version.Place{table(3, 8, "a", "b")}, Log: 8, Next: 11, Seq: 900}
	size := len(framed(version.Put(e)))
	for at := 1; at <= 2; at++ {
		for bytes := range size + 1 {
			d := elder(t)
			d.Cut(at, 0, bytes)
			wantError(t, "P16.1: Add", Add(d, 3, e), api.ErrPower)
			d.On()
			want := grown(t)
			if bytes == size {
				want = made(t, want.Whole(), e)
			}
			wantLoad(t, fmt.Sprintf("P16.4: of %d bytes %d last", size, bytes), d, want, 3, api.OK)
		}
	}
}

// TestPowerOfManyParts: of a manifest with several parts each end that a loss of power may leave is none that counts.
func TestPowerOfManyParts(t *testing.T) {
	v := wide(t, 600)
	size := len(framed(partBodies(v)...))
	for at := 1; at <= 9; at++ {
		for _, names := range []int{0, 1, 2} {
			for bytes := 0; bytes <= size; bytes += 397 {
				d := elder(t)
				d.Cut(at, names, bytes)
				wantError(t, "P16.1: Start", Start(d, 5, v), api.ErrPower)
				d.On()
				want, n := grown(t), int64(3)
				if at > 7 && names == 2 {
					want, n = v, 5
				}
				wantLoad(t, fmt.Sprintf("P16.4: with no power at the call %d, %d, %d", at, names, bytes), d, want, n, api.OK)
			}
		}
	}
}

// TestElderIsKept: a Start that comes to no end leaves the elder manifest, to which Add goes on.
func TestElderIsKept(t *testing.T) {
	for at := 1; at <= 8; at++ {
		d := halfway(t, at)
		e := version.Edit{Log: 8, Next: 11, Seq: 900}
		wantError(t, "P16.1: Add", Add(d, 3, e), api.OK)
		v := made(t, grown(t).Whole(), e)
		wantLoad(t, fmt.Sprintf("P16.4: behind a Start refused at its call %d", at), d, v, 3, api.OK)
		d.Crash(0)
		wantLoad(t, fmt.Sprintf("P16.4: behind a Start refused at its call %d, and a loss of power", at), d, v, 3, api.OK)
		wantError(t, "P16.3: Clean", Clean(d, 3, v), api.OK)
		wantList(t, "P16.3", d, "current", "manifest-00000003")
	}
}

// TestAddBehindACut: behind a frame that is cut off an edit can't be read, so a new manifest is to be started.
func TestAddBehindACut(t *testing.T) {
	d := elder(t)
	d.Cut(2, 0, 9)
	e := version.Edit{Log: 8, Next: 11, Seq: 900}
	wantError(t, "P16.1: Add", Add(d, 3, e), api.ErrPower)
	d.On()
	wantLoad(t, "P16.4", d, grown(t), 3, api.OK)
	wantError(t, "P16.1: Add", Add(d, 3, e), api.OK)
	wantNoLoad(t, "P16.2", d, api.ErrSum)
	wantError(t, "P16.1: Start", Start(d, 4, grown(t)), api.OK)
	wantError(t, "P16.1: Add", Add(d, 4, e), api.OK)
	wantLoad(t, "P16.2", d, made(t, grown(t).Whole(), e), 4, api.OK)
}

// life is a program that has a version on a disk, whose power fails again and again.
type life struct {
	d    *disk.Disk
	v    version.Version
	n    int64
	last int64 // the number of the last manifest that was begun
	cut  bool  // may a frame be cut off behind the manifest?
}

// wanted: the step, and what Load is to tell behind it.
func (l *life) wanted(r *rand.Rand) (step, version.Version, int64) {
	e := version.Edit{Log: l.v.Log + 1, Next: l.v.Next + 3, Seq: l.v.Seq + r.Int63n(9)}
	e.Add = []version.Place{table(0, e.Next-1, "a", "z")}
	if files := l.v.Files(); len(files) > 3 {
		e.Drop = files[:r.Intn(4)]
	}
	v, _ := l.v.Apply(e)
	switch {
	case r.Intn(5) == 0:
		return step{op: "Clean", n: l.n, v: l.v}, l.v, l.n
	case l.cut || r.Intn(4) == 0:
		l.last++
		return step{op: "Start", n: l.last, v: v}, v, l.last
	}
	return step{op: "Add", n: l.n, e: e}, v, l.n
}

// TestLives: by chance, losses of power one behind the other, each behind any steps: what was told is never lost.
func TestLives(t *testing.T) {
	r := rand.New(rand.NewSource(1616))
	for range 200 {
		l := life{d: started(t, 0, version.Version{})}
		for range 60 {
			if r.Intn(3) == 0 {
				l.d.Cut(1+r.Intn(10), r.Intn(6), r.Intn(60), r.Intn(60))
			}
			s, v, n := l.wanted(r)
			e := s.do(l.d)
			if e != api.OK {
				wantError(t, "P16.4: "+s.op, e, api.ErrPower)
				l.d.On()
				l.cut = l.cut || s.op == "Add"
			}
			got, m, why := Load(l.d)
			isNewer := m == n && bytesOf(got) == bytesOf(v)
			isElder := e != api.OK && m == l.n && bytesOf(got) == bytesOf(l.v)
			if why != api.OK || !isNewer && !isElder {
				t.Fatalf("P16.4: behind %s, %d, Load tells %d, %.200q, %d", s.op, e, why, bytesOf(got), m)
			}
			if s.op == "Start" && m == n {
				l.cut = false
			}
			l.v, l.n = got, m
		}
	}
}
