package disk

import (
	"fmt"
	"maps"
	"math/rand"
	"slices"
	"strings"
	"testing"

	"oxbow/api"
)

// model is the document's words, said once more and apart from the program: all files are kept for good, and for each thing that is done to names all names are written down.
type model struct {
	room   int
	files  []modelFile
	states []map[string]int // the names that last, and those behind each thing in the queue; the last ones are the names
	off    bool
	cut    int // calls up to it; -1: none
	full   int
	names  int
	bytes  []int
}

type modelFile struct {
	bytes string
	lasts int
}

func newModel(room int) *model {
	return &model{room: max(room, 0), states: []map[string]int{{}}, cut: -1, full: -1}
}

func (m *model) now() map[string]int { return m.states[len(m.states)-1] }

func (m *model) used() int {
	n := 0
	for _, f := range m.now() {
		n += len(m.files[f].bytes)
	}
	return n
}

// refusal: the error by which a call is refused.
func (m *model) refusal(call, name, other string) api.Errno {
	f, there := m.now()[name]
	bad := func(s string) bool { return len(s) < 1 || len(s) > 64 }
	switch {
	case m.off:
		return api.ErrPower
	case call == "SyncDir":
		return api.OK
	case call == "Create" && bad(name):
		return api.ErrArg
	case call == "Create" && there:
		return api.ErrThere
	case call == "Create" && len(m.now()) == 4096:
		return api.ErrFull
	case call != "Create" && !there:
		return api.ErrNone
	case call == "Append" && (len(m.files[f].bytes)+len(other) > 1048576 || m.used()+len(other) > m.room):
		return api.ErrFull
	case call == "Rename" && bad(other):
		return api.ErrArg
	}
	return api.OK
}

func (m *model) do(call, name, other string) {
	names := maps.Clone(m.now())
	f := names[name]
	switch call {
	case "Create":
		names[name] = len(m.files)
		m.files = append(m.files, modelFile{})
	case "Append":
		m.files[f].bytes += other
		return
	case "Sync":
		m.files[f].lasts = len(m.files[f].bytes)
		return
	case "SyncDir":
		m.states = []map[string]int{names}
		return
	case "Rename":
		if name == other {
			return
		}
		delete(names, name)
		names[other] = f
	case "Remove":
		delete(names, name)
	}
	m.states = append(m.states, names)
}

func (m *model) lose(number int, bytes []int) {
	m.states = []map[string]int{m.states[residue(number, len(m.states))]}
	for i := range m.files {
		f, n := &m.files[i], 0
		if len(bytes) > 0 {
			n = bytes[i%len(bytes)]
		}
		f.lasts += residue(n, len(f.bytes)-f.lasts+1)
		f.bytes = f.bytes[:f.lasts]
	}
}

func (m *model) call(call, name, other string) api.Errno {
	if e := m.refusal(call, name, other); e != api.OK {
		return e
	}
	m.cut, m.full = max(m.cut-1, -1), max(m.full-1, -1)
	switch {
	case m.cut == 0:
		if call != "Sync" && call != "SyncDir" {
			m.do(call, name, other)
		}
		m.lose(m.names, m.bytes)
		m.off, m.cut, m.full = true, -1, -1
		return api.ErrPower
	case m.full == 0:
		m.full = -1
		return api.ErrFull
	}
	m.do(call, name, other)
	return api.OK
}

func call(d *Disk, call, name, other string) api.Errno {
	switch call {
	case "Create":
		return d.Create(name)
	case "Append":
		return d.Append(name, other)
	case "Sync":
		return d.Sync(name)
	case "SyncDir":
		return d.SyncDir()
	case "Rename":
		return d.Rename(name, other)
	}
	return d.Remove(name)
}

// compare: the disk tells what the model has.
func (m *model) compare(d *Disk) string {
	if l := slices.Sorted(maps.Keys(m.now())); !slices.Equal(d.List(), l) {
		return fmt.Sprintf("List is %q, not %q", d.List(), l)
	}
	if d.Used() != m.used() || d.Off() != m.off {
		return fmt.Sprintf("Used is %d, not %d; Off is %t, not %t", d.Used(), m.used(), d.Off(), m.off)
	}
	for _, name := range modelNames {
		want, wantE := "", m.refusal("Read", name, "")
		if wantE == api.OK {
			want = m.files[m.now()[name]].bytes
		}
		if s, e := d.Read(name); s != want || e != wantE {
			return fmt.Sprintf("Read(%q) is %q, %d, not %q, %d", name, s, e, want, wantE)
		}
	}
	return ""
}

var modelNames = []string{"a", "b", "c", "d", "", strings.Repeat("x", 64), strings.Repeat("x", 65)}

var modelCalls = []string{"Create", "Create", "Append", "Append", "Append", "Sync", "SyncDir", "Rename", "Rename", "Remove"}

// few: at most three numbers, of all sizes.
func few(r *rand.Rand) []int {
	l := make([]int, r.Intn(4))
	for i := range l {
		l[i] = anyNumber(r)
	}
	return l
}

func anyNumber(r *rand.Rand) int {
	if r.Intn(8) == 0 {
		return int(r.Uint64())
	}
	return r.Intn(12) - 3
}

// turn: Spoil of the model.
func (m *model) turn(name string, bit int) {
	f, there := m.now()[name]
	if !there || m.files[f].bytes == "" {
		return
	}
	b := []byte(m.files[f].bytes)
	place := residue(bit, 8*len(b))
	b[place/8] ^= 1 << (place % 8)
	m.files[f].bytes = string(b)
}

// step: one call of any kind, of the model and of the disk; what it was, and how they differ.
func step(r *rand.Rand, m *model, d *Disk) (string, string) {
	a, b := modelNames[r.Intn(len(modelNames))], modelNames[r.Intn(len(modelNames))]
	n, names, bytes := r.Intn(7)-1, anyNumber(r), few(r)
	switch r.Intn(20) {
	case 0:
		m.lose(names, bytes)
		m.off, m.cut, m.full = false, -1, -1
		d.Crash(names, bytes...)
		return fmt.Sprint("Crash ", names, bytes), ""
	case 1:
		m.cut, m.names, m.bytes = max(n, 1), names, slices.Clone(bytes)
		d.Cut(n, names, bytes...)
		clear(bytes)
		return fmt.Sprint("Cut ", n, names, m.bytes), ""
	case 2:
		m.full = max(n, 1)
		d.Break(n)
		return fmt.Sprint("Break ", n), ""
	case 3:
		m.off, m.cut, m.full = false, -1, -1
		d.On()
		return "On", ""
	case 4:
		m.turn(a, names)
		d.Spoil(a, names)
		return fmt.Sprint("Spoil ", a, names), ""
	}
	c := modelCalls[r.Intn(len(modelCalls))]
	if c == "Append" {
		b = strings.Repeat(string(rune('0'+r.Intn(10))), r.Intn(6))
	}
	want := m.call(c, a, b)
	if e := call(d, c, a, b); e != want {
		return fmt.Sprintf("%s %q %q", c, a, b), fmt.Sprintf("it is %d, not %d", e, want)
	}
	return fmt.Sprintf("%s %q %q %d", c, a, b, want), ""
}

// TestModel: many calls one behind the other, held against the document's words.
func TestModel(t *testing.T) {
	for seed := range int64(3000) {
		r := rand.New(rand.NewSource(seed))
		room := r.Intn(40) - 1
		m, d := newModel(room), New(room)
		var steps []string
		for range 120 {
			s, differ := step(r, m, d)
			steps = append(steps, s)
			if differ == "" {
				differ = m.compare(d)
			}
			if differ != "" {
				t.Fatalf("P4.2 to P4.5: %s, behind New(%d) and\n%s", differ, room, strings.Join(steps, "\n"))
			}
		}
	}
}
