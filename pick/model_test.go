package pick

import (
	"fmt"
	"math/big"
	"math/rand"
	"slices"
	"testing"

	"oxbow/api"
	"oxbow/version"
)

// The model is the document's words, said once more and apart from the program: in whole numbers of any size, and each table held against each other one.

func atLeastOne(n int64) *big.Int {
	if n < 1 {
		n = 1
	}
	return big.NewInt(n)
}

// modelRoom: Base times Ratio to the power of level - 1, at most 2^60.
func modelRoom(l Limits, level int) *big.Int {
	n := new(big.Int).Exp(atLeastOne(l.Ratio), big.NewInt(int64(level)-1), nil)
	n.Mul(n, atLeastOne(l.Base))
	if most := new(big.Int).Lsh(big.NewInt(1), 60); n.Cmp(most) > 0 {
		return most
	}
	return n
}

func modelFull(v version.Version, l Limits, level int) bool {
	switch level {
	case 0:
		return big.NewInt(int64(len(v.Levels[0]))).Cmp(atLeastOne(int64(l.Zero))) >= 0
	case 1, 2:
		together := new(big.Int)
		for _, m := range v.Levels[level] {
			together.Add(together, big.NewInt(m.Size))
		}
		return together.Cmp(modelRoom(l, level)) > 0
	}
	return false
}

// modelFrom: the tables that are merged, of a level that is full.
func modelFrom(v version.Version, level int, cursor string) []version.Meta {
	if level == 0 {
		return v.Levels[0]
	}
	for _, m := range v.Levels[level] {
		if m.Lo > cursor {
			return []version.Meta{m}
		}
	}
	return v.Levels[level][:1]
}

// reached: may the table hold a key between a Lo and a Hi of two of those? So it is, if one of these Los isn't above its Hi, and one of these His not below its Lo.
func reached(m version.Meta, of []version.Meta) bool {
	left := slices.ContainsFunc(of, func(x version.Meta) bool { return x.Lo <= m.Hi })
	right := slices.ContainsFunc(of, func(x version.Meta) bool { return x.Hi >= m.Lo })
	return left && right
}

func modelPick(v version.Version, l Limits, c cursors) (Job, bool) {
	level := 0
	for !modelFull(v, l, level) {
		if level++; level == 4 {
			return Job{}, false
		}
	}
	job := Job{Level: level, Bottom: true}
	from := modelFrom(v, level, c[level])
	for _, m := range from {
		job.From = append(job.From, m.File)
	}
	all := slices.Clone(from)
	for _, m := range v.Levels[level+1] {
		if reached(m, from) {
			job.To = append(job.To, m.File)
			all = append(all, m)
		}
	}
	for deep := 3; deep > level+1; deep-- {
		for _, m := range v.Levels[deep] {
			if reached(m, all) {
				job.Bottom = false
			}
		}
	}
	return job, true
}

// wantAsModel: the program tells of a version what the model does; which job that is.
func wantAsModel(t *testing.T, v version.Version, l Limits, c cursors) (Job, bool) {
	t.Helper()
	for level := range 4 {
		wantFull(t, "the model", l, v, level, modelFull(v, l, level))
	}
	job, is := modelPick(v, l, c)
	wantPick(t, "the model", v, l, c, job, is)
	return job, is
}

// oneOf: one of a few.
func oneOf[T any](r *rand.Rand, of ...T) T { return of[r.Intn(len(of))] }

func someKey(r *rand.Rand) string {
	return oneOf(r, "", "\x00", "a", "a\x00", "aa", "b", "m", "\x7f", "\x80", "\xff", string([]byte{'a' + byte(r.Intn(26))}), string([]byte{'a' + byte(r.Intn(26)), 'a' + byte(r.Intn(26))}))
}

// someSpans: tables without a key in common, at times next to one another.
func someSpans(r *rand.Rand, level, most int) []version.Place {
	var keys []string
	for range 2 * r.Intn(most+1) {
		keys = append(keys, someKey(r))
	}
	slices.Sort(keys)
	var l []version.Place
	for i := 0; i+1 < len(keys); i += 2 {
		if i == 0 || keys[i] > keys[i-1] {
			l = append(l, sized(level, 0, int64(r.Intn(40)), keys[i], keys[i+1]))
		}
	}
	return l
}

// someVersion: one with some tables in each level.
func someVersion(t *testing.T, r *rand.Rand) version.Version {
	t.Helper()
	var l []version.Place
	for range r.Intn(5) {
		a, b := someKey(r), someKey(r)
		l = append(l, sized(0, 0, int64(r.Intn(40)), min(a, b), max(a, b)))
	}
	for level := 1; level < api.Levels; level++ {
		l = append(l, someSpans(r, level, 5)...)
	}
	for i, file := range r.Perm(len(l)) {
		l[i].Meta.File = int64(file)
	}
	return made(t, l...)
}

// someCursor: any key, often one of a table of the level.
func someCursor(r *rand.Rand, tables []version.Meta) string {
	if len(tables) == 0 || r.Intn(3) == 0 {
		return someKey(r)
	}
	m := oneOf(r, tables...)
	return oneOf(r, m.Lo, m.Lo+"\x00", m.Hi)
}

// TestModel: versions of any tables, by any limits.
func TestModel(t *testing.T) {
	r := rand.New(rand.NewSource(1))
	told := map[string]int{}
	for range 30000 {
		v := someVersion(t, r)
		l := Limits{oneOf(r, -1, 0, 1, 2, 3, 4, 5, 9), oneOf(r, -1, 0, int64(r.Intn(80)), 1<<60), oneOf(r, -1, 0, 1, 2, 3, int64(r.Intn(9)))}
		var c cursors
		for level := range c {
			c[level] = someCursor(r, v.Levels[level])
		}
		job, is := wantAsModel(t, v, l, c)
		if told["none"]++; is {
			told["none"]--
			told[fmt.Sprint(job.Level, " ", min(len(job.To), 2), " ", job.Bottom)]++
		}
		if t.Failed() {
			return
		}
	}
	for _, what := range []string{
		"none", "0 0 true", "0 0 false", "0 1 true", "0 1 false", "0 2 true", "0 2 false", "1 0 true", "1 0 false", "1 1 true", "1 1 false", "1 2 true", "1 2 false", "2 0 true", "2 1 true", "2 2 true",
	} {
		if told[what] < 50 {
			t.Errorf("%q was the answer %d times: too few to tell anything", what, told[what])
		}
	}
}

// spansOf: all spans of some keys.
func spansOf(keys ...string) [][2]string {
	var l [][2]string
	for i, lo := range keys {
		for _, hi := range keys[i:] {
			l = append(l, [2]string{lo, hi})
		}
	}
	return l
}

// TestAllSpans: four tables, with each of the spans of four keys: two of level 0, one below them, one further down; and one of each level.
func TestAllSpans(t *testing.T) {
	spans := spansOf("", "a", "a\x00", "b")
	for n := range len(spans) * len(spans) * len(spans) * len(spans) {
		for _, levels := range [][4]int{{0, 0, 1, 2}, {0, 0, 1, 3}, {0, 1, 2, 3}} {
			var l []version.Place
			for file, rest := 0, n; file < 4; file, rest = file+1, rest/len(spans) {
				span := spans[rest%len(spans)]
				l = append(l, sized(levels[file], int64(file), 200, span[0], span[1]))
			}
			wantAsModel(t, made(t, l...), small, cursors{})
		}
		if t.Failed() {
			return
		}
	}
}

// TestAllCursors: three tables of a level, with each cursor at, and next to, one of their keys.
func TestAllCursors(t *testing.T) {
	keys := []string{"", "\x00", "a", "a\x00", "b", "b\x00", "c", "d"}
	for _, level := range []int{1, 2} {
		for _, first := range spansOf(keys...) {
			for _, second := range spansOf(keys...) {
				if second[0] <= first[1] {
					continue
				}
				v := made(t, sized(level, 4, 101, first[0], first[1]), sized(level, 3, 101, second[0], second[1]), sized(level, 9, 101, "e", "f"))
				for _, cursor := range append(keys, "e", "e\x00", "f", "g") {
					wantAsModel(t, v, small, cursors{"", cursor, cursor, ""})
				}
			}
		}
	}
}

// TestRoomModel: rooms by any limits, many about the greatest one.
func TestRoomModel(t *testing.T) {
	r := rand.New(rand.NewSource(1))
	most, less := 0, 0
	for range 200000 {
		number := func() int64 {
			return oneOf(r, int64(r.Uint64())>>r.Intn(64), 1<<r.Intn(63)+int64(r.Intn(3))-1, int64(r.Intn(9)-3), least, greatest)
		}
		l := Limits{r.Intn(9), number(), number()}
		if l.Base > 0 && r.Intn(2) == 0 {
			l.Ratio = 1<<60/l.Base + int64(r.Intn(3)) - 1
		}
		for level := 1; level < 4; level++ {
			want := modelRoom(l, level).Int64()
			wantRoom(t, l, level, want)
			if want == 1<<60 {
				most++
			} else {
				less++
			}
		}
		if t.Failed() {
			return
		}
	}
	if most < 100000 || less < 100000 {
		t.Errorf("%d rooms are the greatest, %d aren't: too few to tell anything", most, less)
	}
}
