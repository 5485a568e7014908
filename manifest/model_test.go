package manifest

import (
	"fmt"
	"hash/crc32"
	"math/rand"
	"regexp"
	"slices"
	"strconv"
	"strings"
	"testing"

	"oxbow/api"
	"oxbow/disk"
	"oxbow/version"
)

// The model is the document's words, said once more and apart from the program: which calls of the disk each call of the layer makes, as a list.

// call is one of the disk that changes.
type call struct{ op, name, other string }

func (c call) do(d *disk.Disk) api.Errno {
	switch c.op {
	case "Create":
		return d.Create(c.name)
	case "Append":
		return d.Append(c.name, c.other)
	case "Sync":
		return d.Sync(c.name)
	case "SyncDir":
		return d.SyncDir()
	case "Rename":
		return d.Rename(c.name, c.other)
	}
	return d.Remove(c.name)
}

// step is a call of the layer that changes: op is Start, Add or Clean.
type step struct {
	op string
	n  int64
	v  version.Version
	e  version.Edit
}

func (s step) do(d *disk.Disk) api.Errno {
	switch s.op {
	case "Start":
		return Start(d, s.n, s.v)
	case "Add":
		return Add(d, s.n, s.e)
	}
	return Clean(d, s.n, s.v)
}

// calls: those of the disk that the chapter names, if none is refused; or the error ahead of them all.
func (s step) calls(d *disk.Disk) ([]call, api.Errno) {
	if s.op == "Clean" {
		return cleanCalls(d, s.n, s.v), api.OK
	}
	if s.n < 0 || s.n > 99999999 {
		return nil, api.ErrArg
	}
	bodies := []string{version.Put(s.e)}
	if s.op == "Start" {
		bodies = partBodies(s.v)
	}
	if slices.ContainsFunc(bodies, func(body string) bool { return len(body) > 65535 }) {
		return nil, api.ErrLong
	}
	name := nameOf("manifest", s.n)
	if s.op == "Add" {
		return []call{{"Append", name, framed(bodies...)}, {"Sync", name, ""}}, api.OK
	}
	l := []call{{"Create", name, ""}, {"Append", name, framed(bodies...)}, {"Sync", name, ""}, {"SyncDir", "", ""}}
	if slices.Contains(d.List(), "current-next") {
		l = append(l, call{"Remove", "current-next", ""})
	}
	return append(l, call{"Create", "current-next", ""}, call{"Append", "current-next", framed(name)}, call{"Sync", "current-next", ""},
		call{"Rename", "current-next", "current"}, call{"SyncDir", "", ""}), api.OK
}

var ofKind = regexp.MustCompile(`^(manifest|log|table)-[0-9]{8}$`)

func cleanCalls(d *disk.Disk, n int64, v version.Version) []call {
	needed := map[string]bool{nameOf("manifest", n): true, nameOf("log", v.Log): true}
	for _, tables := range v.Levels {
		for _, m := range tables {
			needed[nameOf("table", m.File)] = true
		}
	}
	var l []call
	for _, name := range d.List() {
		if name == "current-next" || ofKind.MatchString(name) && !needed[name] {
			l = append(l, call{"Remove", name, ""})
		}
	}
	if len(l) > 0 {
		l = append(l, call{"SyncDir", "", ""})
	}
	return l
}

// partBodies: the bytes of a version's parts.
func partBodies(v version.Version) []string {
	var all []version.Place
	for level := range 4 {
		for _, m := range v.Levels[level] {
			all = append(all, version.Place{Level: level, Meta: m})
		}
	}
	var l []string
	for from := 0; from == 0 || from < len(all); from += 256 {
		l = append(l, version.Put(version.Edit{Add: all[from:min(from+256, len(all))], Log: v.Log, Next: v.Next, Seq: v.Seq}))
	}
	return l
}

// nameOf: the name of a kind and a number.
func nameOf(kind string, n int64) string { return fmt.Sprintf("%s-%08d", kind, n) }

// framed: the frames of bodies, one behind the other.
func framed(bodies ...string) string {
	var s strings.Builder
	for _, body := range bodies {
		n, sum := len(body), crc32.ChecksumIEEE([]byte(body))
		s.Write([]byte{byte(n >> 8), byte(n), byte(^n >> 8), byte(^n), byte(sum >> 24), byte(sum >> 16), byte(sum >> 8), byte(sum)})
		s.WriteString(body)
	}
	return s.String()
}

// unframed: the bodies of whole frames, and what stands behind them: nothing, one that is "cut" off, or something "damaged".
func unframed(s string) ([]string, string) {
	var l []string
	for s != "" {
		if len(s) < 4 {
			return l, "cut"
		}
		n := int(s[0])<<8 + int(s[1])
		if s[2] != ^s[0] || s[3] != ^s[1] {
			return l, "damaged"
		}
		if len(s) < 8+n {
			return l, "cut"
		}
		if s[:8+n] != framed(s[8:8+n]) {
			return l, "damaged"
		}
		l, s = append(l, s[8:8+n]), s[8+n:]
	}
	return l, ""
}

func modelLoad(d *disk.Disk) (version.Version, int64, api.Errno) {
	s, e := d.Read("current")
	if e != api.OK {
		return version.Version{}, 0, e
	}
	l, behind := unframed(s)
	if len(l) != 1 || behind != "" {
		return version.Version{}, 0, api.ErrSum
	}
	if !strings.HasPrefix(l[0], "manifest-") || !ofKind.MatchString(l[0]) {
		return version.Version{}, 0, api.ErrForm
	}
	n, _ := strconv.ParseInt(l[0][len("manifest-"):], 10, 64)
	s, e = d.Read(l[0])
	if e != api.OK {
		return version.Version{}, 0, e
	}
	l, behind = unframed(s)
	if behind == "damaged" {
		return version.Version{}, 0, api.ErrSum
	}
	if len(l) == 0 {
		return version.Version{}, 0, api.ErrForm
	}
	var v version.Version
	for _, body := range l {
		edit, e := version.Get(body)
		if e == api.OK {
			v, e = v.Apply(edit)
		}
		if e != api.OK {
			return version.Version{}, 0, api.ErrForm
		}
	}
	return v, n, api.OK
}

// twin: a step on a disk of its own, by the model; the first of its calls that is refused is the last one.
func twin(d *disk.Disk, s step) api.Errno {
	l, e := s.calls(d)
	for _, c := range l {
		if e = c.do(d); e != api.OK {
			break
		}
	}
	return e
}

// wantTwins: two disks have the same names and bytes.
func wantTwins(t *testing.T, what string, a, b *disk.Disk) {
	t.Helper()
	wantList(t, what, a, b.List()...)
	if a.Off() != b.Off() || a.Used() != b.Used() {
		t.Errorf("%s: the disk is off: %t, with %d bytes, not %t, %d", what, a.Off(), a.Used(), b.Off(), b.Used())
	}
	for _, name := range b.List() {
		s, e := a.Read(name)
		if want, why := b.Read(name); s != want || e != why {
			t.Errorf("%s: %s is %d bytes %.80x, %d, not %d bytes %.80x, %d", what, name, len(s), s, e, len(want), want, why)
		}
	}
}

// anyEdit: one by chance, that mostly can be.
func anyEdit(r *rand.Rand) version.Edit {
	e := version.Edit{Log: r.Int63n(3), Next: 3 + r.Int63n(8), Seq: r.Int63n(9)}
	for range r.Intn(3) {
		lo := string(rune('a' + r.Intn(26)))
		e.Add = append(e.Add, version.Place{Level: r.Intn(4), Meta: version.Meta{File: r.Int63n(10), Size: r.Int63n(100), Lo: lo, Hi: lo + "x"}})
	}
	if r.Intn(4) == 0 {
		e.Drop = append(e.Drop, r.Int63n(10))
	}
	if r.Intn(60) == 0 {
		e.Add = append(e.Add, version.Place{Level: 3, Meta: version.Meta{File: 2, Hi: longText}})
	}
	return e
}

// anyVersion: what some edits make.
func anyVersion(r *rand.Rand) version.Version {
	var v version.Version
	for range r.Intn(6) {
		if w, e := v.Apply(anyEdit(r)); e == api.OK {
			v = w
		}
	}
	return v
}

// anyStep: one by chance, mostly of numbers that others have too.
func anyStep(r *rand.Rand) step {
	ns := []int64{0, 1, 2, 3, 4, 5, 99999999, 0, 1, 2, 3, 4, 5, 99999999, 100000000, -1}
	s := step{n: ns[r.Intn(len(ns))], v: anyVersion(r), e: anyEdit(r)}
	s.op = []string{"Start", "Start", "Add", "Add", "Add", "Add", "Clean"}[r.Intn(7)]
	return s
}

// disturb: something happens to a disk, by chance: most often nothing.
func disturb(r *rand.Rand, disks ...*disk.Disk) {
	what, n, names, bytes := r.Intn(24), 1+r.Intn(12), r.Intn(9)-2, []int{r.Intn(100) - 20, r.Intn(100) - 20}
	l := append(disks[0].List(), "")
	name := l[r.Intn(len(l))]
	for _, d := range disks {
		switch what {
		case 0, 1:
			d.Cut(n, names, bytes...)
		case 2, 3:
			d.Break(n)
		case 4:
			d.Crash(names, bytes...)
		case 5, 6, 7:
			d.On()
		case 8:
			d.Spoil(name, 8*bytes[0]+n)
		case 9:
			d.Append(name, "\x00")
		case 10:
			d.Create([]string{"current-next", "table-00000001", "log-00000001", "other"}[n%4])
		}
	}
}

// TestTwins: any steps, with losses of power, calls that are broken, damage, and numbers and versions that are refused, on disks that aren't large.
func TestTwins(t *testing.T) {
	r := rand.New(rand.NewSource(16))
	told := map[api.Errno]int{}
	for range 1500 {
		room := r.Intn(1200)
		a, b := disk.New(room), disk.New(room)
		for range 40 {
			disturb(r, a, b)
			s := anyStep(r)
			// Most Adds are to the manifest that counts.
			if _, n, e := modelLoad(b); s.op == "Add" && e == api.OK && r.Intn(4) > 0 {
				s.n = n
			}
			what := fmt.Sprintf("P16.1, P16.3: %s %d", s.op, s.n)
			wantError(t, what, s.do(a), twin(b, s))
			wantTwins(t, what, a, b)
			v, n, e := modelLoad(b)
			wantLoad(t, "P16.2", a, v, n, e)
			told[e]++
		}
		if t.Failed() {
			return
		}
	}
	for _, e := range []api.Errno{api.OK, api.ErrNone, api.ErrPower, api.ErrSum, api.ErrForm} {
		if told[e] < 200 {
			t.Errorf("of what Load told only %d were %d", told[e], e)
		}
	}
}
