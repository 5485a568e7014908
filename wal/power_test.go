package wal

import (
	"fmt"
	"math"
	"math/rand"
	"slices"
	"testing"

	"oxbow/api"
	"oxbow/disk"
)

// step is a call that changes a log: op is Create, Append or Remove.
type step struct {
	op   string
	n    int64
	body string
}

func (s step) do(d *disk.Disk) api.Errno {
	switch s.op {
	case "Create":
		return Create(d, s.n)
	case "Append":
		return Append(d, s.n, s.body)
	}
	return Remove(d, s.n)
}

// script: each step makes two calls of the disk that change; each Create is of one more file.
var script = []step{
	{"Create", 1, ""}, {"Append", 1, "ab"}, {"Append", 1, ""}, {"Create", 2, ""}, {"Append", 2, "xyz"}, {"Append", 1, "cdef"},
	{"Remove", 2, ""}, {"Create", 2, ""}, {"Append", 2, "\x00\xff"}, {"Append", 2, "q"}, {"Remove", 1, ""}, {"Create", 0, ""}, {"Remove", 2, ""},
}

// log is what is known of one: its file's number, whose bodies were told as OK, and how many bytes there are behind them.
type log struct {
	file   int
	bodies []string
	behind int
}

// logs: those that steps make, by their numbers.
func logs(steps []step) map[int64]log {
	m, files := map[int64]log{}, 0
	for _, s := range steps {
		switch s.op {
		case "Create":
			m[s.n] = log{file: files}
			files++
		case "Append":
			l := m[s.n]
			l.bodies = append(slices.Clone(l.bodies), s.body)
			m[s.n] = l
		case "Remove":
			delete(m, s.n)
		}
	}
	return m
}

// remainder, as chapter 4 says it of a loss of power.
func remainder(n, by int) int {
	if n < 0 {
		n = -(n + 1)
	}
	return n % by
}

// logsCut: those behind a loss of power within the last one of the steps: of what it does to names and bytes nothing lasted yet.
func logsCut(steps []step, names int, bytes []int) map[int64]log {
	ahead, last := steps[:len(steps)-1], steps[len(steps)-1]
	m := logs(ahead)
	if last.op != "Append" {
		if remainder(names, 2) == 1 {
			return logs(steps)
		}
		return m
	}
	l, f, lasts := m[last.n], len(framed(last.body)), 0
	if len(bytes) > 0 {
		lasts = remainder(bytes[l.file%len(bytes)], f+1)
	}
	if lasts == f {
		return logs(steps)
	}
	l.behind = lasts
	m[last.n] = l
	return m
}

func wantLogs(t *testing.T, what string, d *disk.Disk, want map[int64]log) {
	t.Helper()
	for n := range int64(4) {
		l, there := want[n]
		if !there {
			wantNoLog(t, fmt.Sprintf("%s: log %d", what, n), d, n, api.ErrNone)
			continue
		}
		wantLog(t, fmt.Sprintf("%s: log %d", what, n), d, n, l.behind > 0, l.bodies...)
	}
	if len(d.List()) != len(want) {
		t.Errorf("%s: the disk has %q", what, d.List())
	}
}

// TestPower: behind a loss of power at each call of the disk, with each end that it may have: all that was told is there, and of what wasn't told all, some, or nothing.
func TestPower(t *testing.T) {
	var ends [][]int
	for n := range 13 {
		ends = append(ends, []int{n}, []int{-n - 1, n + 5}, []int{3, 2 * n, n, 1})
	}
	ends = append(ends, nil, []int{math.MaxInt, math.MinInt}, []int{math.MinInt})
	for call := 1; call <= 2*len(script); call++ {
		for _, names := range []int{0, 1, 2, 3, -1, -2, math.MaxInt, math.MinInt} {
			for _, bytes := range ends {
				d := disk.New(1000)
				d.Cut(call, names, bytes...)
				within := (call - 1) / 2
				for i, s := range script[:within] {
					wantError(t, fmt.Sprintf("P8.2: step %d ahead of the call %d", i, call), s.do(d), api.OK)
				}
				what := fmt.Sprintf("P8.4: the power fails at the call %d, %d, %d", call, names, bytes)
				wantError(t, what, script[within].do(d), api.ErrPower)
				wantError(t, what+", and on", script[within].do(d), api.ErrPower)
				if !d.Off() {
					t.Errorf("%s: it is on", what)
				}
				d.On()
				wantLogs(t, what, d, logsCut(script[:within+1], names, bytes))
			}
		}
	}
}

// TestPowerBetween: behind a loss of power between two steps, whatever it takes, all that was told is there, and nothing else.
func TestPowerBetween(t *testing.T) {
	for _, names := range []int{0, 1, 2, 7} {
		for _, bytes := range [][]int{nil, {0}, {1}, {9, 4}} {
			d := disk.New(1000)
			for i, s := range script {
				wantOK(t, s.do(d))
				d.Crash(names, bytes...)
				wantLogs(t, fmt.Sprintf("P8.4: the power fails behind step %d", i), d, logs(script[:i+1]))
			}
		}
	}
}

// TestTwoCalls: each step makes two calls of the disk that change, and no third one.
func TestTwoCalls(t *testing.T) {
	d := disk.New(1000)
	for i, s := range script {
		d.Break(3)
		wantError(t, fmt.Sprintf("P8.2: step %d", i), s.do(d), api.OK)
		wantError(t, fmt.Sprintf("P8.2: the call behind step %d", i), d.SyncDir(), api.ErrFull)
	}
}

// TestFirstCallFails: nothing is done, and no second call is made.
func TestFirstCallFails(t *testing.T) {
	d := disk.New(1000)
	for i, s := range script {
		what := fmt.Sprintf("P8.2: step %d, whose first call fails", i)
		d.Break(1)
		d.Cut(2, 0)
		wantError(t, what, s.do(d), api.ErrFull)
		wantError(t, what+": the call behind it", d.SyncDir(), api.ErrPower)
		d.On()
		wantLogs(t, what, d, logs(script[:i]))
		wantOK(t, s.do(d))
	}
}

// TestSecondCallFails: what the first call did stays done, but doesn't last yet.
func TestSecondCallFails(t *testing.T) {
	for i, s := range script {
		what := fmt.Sprintf("P8.2: step %d, whose second call fails", i)
		d := disk.New(1000)
		for _, ahead := range script[:i] {
			wantOK(t, ahead.do(d))
		}
		d.Break(2)
		wantError(t, what, s.do(d), api.ErrFull)
		wantLogs(t, what, d, logs(script[:i+1]))
		d.Crash(0)
		wantLogs(t, what+", and a loss of power", d, logs(script[:i]))
	}
}

// TestBehindAnError: a body that is appended behind one whose Sync failed lasts, and with it the one ahead.
func TestBehindAnError(t *testing.T) {
	d := disk.New(1000)
	d.Break(2)
	wantError(t, "P8.2: Create", Create(d, 7), api.ErrFull)
	wantError(t, "P8.2: Create of what is there", Create(d, 7), api.ErrThere)
	wantOK(t, d.SyncDir())
	d.Break(2)
	wantError(t, "P8.2: Append", Append(d, 7, "a"), api.ErrFull)
	wantError(t, "P8.2: Append", Append(d, 7, "b"), api.OK)
	d.Crash(0)
	wantLog(t, "P8.4", d, 7, false, "a", "b")
	d.Break(2)
	wantError(t, "P8.2: Remove", Remove(d, 7), api.ErrFull)
	wantError(t, "P8.2: Remove of one that is gone", Remove(d, 7), api.ErrNone)
	d.Crash(0)
	wantLog(t, "P8.2: a Remove that doesn't last", d, 7, false, "a", "b")
}

// TestBehindACut: what is appended behind a frame that is cut off makes the log one with a fault, or cut off all the same.
func TestBehindACut(t *testing.T) {
	d := made(t, 7, framed("a")+framed("bcd")[:9])
	wantLog(t, "P8.3", d, 7, true, "a")
	wantError(t, "P8.2: Append", Append(d, 7, "e"), api.OK)
	wantBytes(t, "P8.2", d, 7, framed("a")+framed("bcd")[:9]+framed("e"))
	wantNoLog(t, "P8.3", d, 7, api.ErrSum)
	d = made(t, 7, framed("a")+framed(longBody)[:100])
	wantError(t, "P8.2: Append", Append(d, 7, "e"), api.OK)
	wantLog(t, "P8.3", d, 7, true, "a")
}

// TestOthersDontLast: a log's calls make no other file's bytes last, and Append no names.
func TestOthersDontLast(t *testing.T) {
	d := made(t, 7, framed("a"))
	wantOK(t, Create(d, 8), d.Append(Name(8), framed("x")), d.Create("other"))
	wantOK(t, Append(d, 7, "b"))
	d.Crash(0)
	wantList(t, "P8.2", d, Name(7), Name(8))
	wantLog(t, "P8.2", d, 8, false)
	wantOK(t, d.Append(Name(8), framed("x")), d.Create("other"), Create(d, 9), Remove(d, 9))
	d.Crash(0)
	wantList(t, "P8.2", d, Name(7), Name(8), "other")
	wantLog(t, "P8.2", d, 8, false)
	wantLog(t, "P8.2", d, 7, false, "a", "b")
}

// twin: the chapter's words, said once more and apart from the program, on a disk of its own.
func twin(d *disk.Disk, s step) api.Errno {
	if s.n < 0 || s.n > 99999999 {
		return api.ErrArg
	}
	if s.op == "Append" && len(s.body) > 65535 {
		return api.ErrLong
	}
	name := nameOf("log", s.n)
	switch s.op {
	case "Create":
		if e := d.Create(name); e != api.OK {
			return e
		}
		return d.SyncDir()
	case "Append":
		if e := d.Append(name, framed(s.body)); e != api.OK {
			return e
		}
		return d.Sync(name)
	}
	if e := d.Remove(name); e != api.OK {
		return e
	}
	return d.SyncDir()
}

// TestTwins: by chance, with losses of power, calls that are broken, and numbers and bodies that are refused, on a disk that isn't large.
func TestTwins(t *testing.T) {
	r := rand.New(rand.NewSource(88))
	ns := []int64{0, 1, 2, 3, 99999999, 100000000, -1}
	ops := []string{"Create", "Append", "Append", "Append", "Remove"}
	for range 300 {
		room := r.Intn(400)
		a, b := disk.New(room), disk.New(room)
		for range 60 {
			names, bytes := r.Intn(9)-4, []int{r.Intn(40) - 20, r.Intn(40) - 20}
			n := 1 + r.Intn(4)
			for _, d := range []*disk.Disk{a, b} {
				switch names {
				case 0:
					d.Cut(n, n+bytes[0], bytes...)
				case 1:
					d.Break(n)
				case 2:
					d.Crash(n, bytes...)
				case 3:
					d.On()
				}
			}
			s := step{ops[r.Intn(len(ops))], ns[r.Intn(len(ns))], longBody[:r.Intn(30)]}
			if r.Intn(40) == 0 {
				s.body = longBody + "b"
			}
			wantError(t, fmt.Sprintf("P8.2: %s %d", s.op, s.n), s.do(a), twin(b, s))
			wantTwins(t, a, b)
		}
	}
}

// wantTwins: two disks have the same names and bytes.
func wantTwins(t *testing.T, a, b *disk.Disk) {
	t.Helper()
	wantList(t, "P8.2", a, b.List()...)
	if a.Off() != b.Off() || a.Used() != b.Used() {
		t.Errorf("P8.2: the disk is off: %t, with %d bytes, not %t, %d", a.Off(), a.Used(), b.Off(), b.Used())
	}
	for _, name := range b.List() {
		s, e := a.Read(name)
		if want, why := b.Read(name); s != want || e != why {
			t.Errorf("P8.2: %s is %x, %d, not %x, %d", name, s, e, want, why)
		}
	}
}
