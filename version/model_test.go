package version

import (
	"encoding/binary"
	"math/rand"
	"slices"
	"testing"

	"oxbow/api"
)

// The model is the document's words, said once more and apart from the program: each thing is held against each other one, and errors are answered step by step.

// objection is what the document names against an edit, "" if it can be.
type objection string

func modelNumbers(v Version, e Edit) objection {
	switch {
	case v.Log > e.Log:
		return "log"
	case v.Next > e.Next:
		return "next"
	case v.Seq > e.Seq:
		return "seq"
	case e.Log >= e.Next && (e.Log != 0 || e.Next != 0):
		return "log not below next"
	}
	return ""
}

// modelTables: all tables of a version.
func modelTables(v Version) []Place {
	var l []Place
	for level := range 4 {
		for _, m := range v.Levels[level] {
			l = append(l, Place{level, m})
		}
	}
	return l
}

func isFile(n int64) func(Place) bool { return func(p Place) bool { return p.Meta.File == n } }

func modelDrops(v Version, e Edit) objection {
	for i, n := range e.Drop {
		if !slices.ContainsFunc(modelTables(v), isFile(n)) {
			return "drops what isn't there"
		}
		if slices.Contains(e.Drop[:i], n) {
			return "drops twice"
		}
	}
	return ""
}

func modelAdds(v Version, e Edit) objection {
	for i, p := range e.Add {
		switch {
		case p.Level != 0 && p.Level != 1 && p.Level != 2 && p.Level != 3:
			return "level"
		case p.Meta.File < 0:
			return "file below 0"
		case p.Meta.File >= e.Next:
			return "file not below next"
		case slices.ContainsFunc(modelTables(v), isFile(p.Meta.File)) && slices.Contains(e.Drop, p.Meta.File):
			return "adds what it drops"
		case slices.ContainsFunc(modelTables(v), isFile(p.Meta.File)):
			return "adds what is there"
		case slices.ContainsFunc(e.Add[:i], isFile(p.Meta.File)):
			return "adds twice"
		case p.Meta.Size < 0:
			return "size"
		case p.Meta.Hi < p.Meta.Lo:
			return "lo above hi"
		}
	}
	return ""
}

func modelCommon(l []Place) objection {
	for i, a := range l {
		for _, b := range l[:i] {
			if a.Level == b.Level && a.Level > 0 && a.Meta.Lo <= b.Meta.Hi && b.Meta.Lo <= a.Meta.Hi {
				return "common"
			}
		}
	}
	return ""
}

// ahead: does a stand ahead of b, in their level?
func ahead(a, b Place) bool {
	if a.Level == 0 {
		return a.Meta.File > b.Meta.File
	}
	return a.Meta.Lo < b.Meta.Lo
}

func modelApply(v Version, e Edit) (Version, objection) {
	for _, ask := range []func(Version, Edit) objection{modelNumbers, modelDrops, modelAdds} {
		if reason := ask(v, e); reason != "" {
			return Version{}, reason
		}
	}
	var l []Place
	for _, p := range append(modelTables(v), e.Add...) {
		if !slices.Contains(e.Drop, p.Meta.File) {
			l = append(l, p)
		}
	}
	if reason := modelCommon(l); reason != "" {
		return Version{}, reason
	}
	next := Version{Log: e.Log, Next: e.Next, Seq: e.Seq}
	for len(l) > 0 {
		first := 0
		for i := range l {
			if l[i].Level == l[first].Level && ahead(l[i], l[first]) {
				first = i
			}
		}
		next.Levels[l[first].Level] = append(next.Levels[l[first].Level], l[first].Meta)
		l = slices.Delete(l, first, first+1)
	}
	return next, ""
}

// modelPut: the bytes, by the library's numbers.
func modelPut(e Edit) string {
	var b []byte
	number := func(n int64) { b = binary.AppendVarint(b, n) }
	text := func(s string) { b = append(binary.AppendVarint(b, int64(len(s))), s...) }
	number(e.Log)
	number(e.Next)
	number(e.Seq)
	number(int64(len(e.Drop)))
	for _, n := range e.Drop {
		number(n)
	}
	number(int64(len(e.Add)))
	for _, p := range e.Add {
		number(int64(p.Level))
		number(p.Meta.File)
		number(p.Meta.Size)
		text(p.Meta.Lo)
		text(p.Meta.Hi)
	}
	return string(b)
}

// modelNumber: a number, and what is left behind it.
func modelNumber(s string) (int64, string, api.Errno) {
	n, count := binary.Varint([]byte(s))
	switch {
	case count == 0 && len(s) < 10:
		return 0, "", api.ErrShort
	case count <= 0 || len(binary.AppendVarint(nil, n)) != count:
		return 0, "", api.ErrForm
	}
	return n, s[count:], api.OK
}

// modelNumbersOf: so many numbers, and what is left behind them.
func modelNumbersOf(s string, count int64) (l []int64, left string, e api.Errno) {
	for ; count > 0; count-- {
		var n int64
		if n, s, e = modelNumber(s); e != api.OK {
			return nil, "", e
		}
		l = append(l, n)
	}
	return l, s, api.OK
}

// modelText: a text, and what is left behind it.
func modelText(s string) (string, string, api.Errno) {
	n, s, e := modelNumber(s)
	switch {
	case e != api.OK:
		return "", "", e
	case n < 0:
		return "", "", api.ErrForm
	case n > 65535:
		return "", "", api.ErrLong
	case n > int64(len(s)):
		return "", "", api.ErrShort
	}
	return s[:n], s[n:], api.OK
}

func modelPlace(s string) (Place, string, api.Errno) {
	level, s, e := modelNumber(s)
	if e == api.OK && (level < 0 || level >= 4) {
		e = api.ErrForm
	}
	if e != api.OK {
		return Place{}, "", e
	}
	numbers, s, e := modelNumbersOf(s, 2)
	if e != api.OK {
		return Place{}, "", e
	}
	lo, s, e := modelText(s)
	if e != api.OK {
		return Place{}, "", e
	}
	hi, s, e := modelText(s)
	return Place{int(level), Meta{numbers[0], numbers[1], lo, hi}}, s, e
}

// modelCount: how many there are, and what is left behind that.
func modelCount(s string) (int64, string, api.Errno) {
	n, s, e := modelNumber(s)
	if e == api.OK && (n < 0 || n > 4096) {
		e = api.ErrForm
	}
	return n, s, e
}

func modelGet(s string) (Edit, api.Errno) {
	numbers, s, e := modelNumbersOf(s, 3)
	if e != api.OK {
		return Edit{}, e
	}
	count, s, e := modelCount(s)
	if e != api.OK {
		return Edit{}, e
	}
	drops, s, e := modelNumbersOf(s, count)
	if e != api.OK {
		return Edit{}, e
	}
	if count, s, e = modelCount(s); e != api.OK {
		return Edit{}, e
	}
	var adds []Place
	for ; count > 0; count-- {
		var p Place
		if p, s, e = modelPlace(s); e != api.OK {
			return Edit{}, e
		}
		adds = append(adds, p)
	}
	if s != "" {
		return Edit{}, api.ErrForm
	}
	return Edit{Add: adds, Drop: drops, Log: numbers[0], Next: numbers[1], Seq: numbers[2]}, api.OK
}

// same: the program tells of a version and an edit what the model does.
func same(t *testing.T, v Version, e Edit) (Version, objection) {
	t.Helper()
	want, reason := modelApply(v, e)
	if reason != "" {
		wantRefused(t, string(reason), v, e)
		return v, reason
	}
	wantApply(t, "the model", v, e, want, api.OK)
	return want, reason
}

// TestAllSpans: three tables of one level, with each of the spans of four keys; two of them are there, one comes.
func TestAllSpans(t *testing.T) {
	var spans []Meta
	keys := []string{"", "a", "a\x00", "b"}
	for i, lo := range keys {
		for _, hi := range keys[i:] {
			spans = append(spans, meta(0, lo, hi))
		}
	}
	for n := range len(spans) * len(spans) * len(spans) {
		for _, level := range []int{0, 1, 3} {
			var l []Place
			for file, rest := int64(0), n; file < 3; file, rest = file+1, rest/len(spans) {
				m := spans[rest%len(spans)]
				m.File = file
				l = append(l, Place{level, m})
			}
			same(t, Version{}, Edit{Add: l, Next: 3})
			if v, reason := same(t, Version{}, Edit{Add: l[:2], Next: 3}); reason == "" {
				same(t, v, Edit{Add: l[2:], Next: 3})
				same(t, v, Edit{Add: l[2:], Drop: []int64{0}, Next: 3})
			}
		}
		if t.Failed() {
			return
		}
	}
}

// pick: one of a few.
func pick[T any](r *rand.Rand, of ...T) T { return of[r.Intn(len(of))] }

func someKey(r *rand.Rand) string {
	return pick(r, "", "\x00", "a", "a\x00", "aa", "b", "m", "\x7f", "\x80", "\xff", string([]byte{'a' + byte(r.Intn(26)), 'a' + byte(r.Intn(26))}))
}

// somePlace: mostly one that can be.
func somePlace(r *rand.Rand, next int64) Place {
	lo := someKey(r)
	hi := pick(r, lo, lo, lo+"\x00", someKey(r))
	if hi < lo && r.Intn(10) > 0 {
		lo, hi = hi, lo
	}
	return Place{r.Intn(4), Meta{next, int64(r.Intn(4000)), lo, hi}}
}

// spoiled: an edit of which one thing is otherwise.
func spoiled(r *rand.Rand, v Version, e Edit) Edit {
	odd := pick[int64](r, least, -1, 0, v.Next-1, v.Next, e.Next-1, e.Next, e.Next+1, greatest, int64(r.Intn(40)))
	switch what := r.Intn(10); {
	case what == 0:
		e.Log = pick(r, odd, v.Log-1)
	case what == 1:
		e.Next = pick(r, odd, v.Next-1)
	case what == 2:
		e.Seq = pick(r, odd, v.Seq-1)
	case what == 3:
		e.Drop = append(e.Drop, odd)
	case what == 4 && len(e.Drop) > 0:
		e.Drop = append(e.Drop, e.Drop[r.Intn(len(e.Drop))])
	case len(e.Add) == 0:
	case what == 5:
		e.Add[r.Intn(len(e.Add))].Level = pick(r, -1, 4, int(odd))
	case what == 6:
		e.Add[r.Intn(len(e.Add))].Meta.Size = odd
	case what == 7:
		e.Add[r.Intn(len(e.Add))].Meta.File = odd
	case what == 8 && len(e.Drop) > 0:
		e.Add[r.Intn(len(e.Add))].Meta.File = e.Drop[r.Intn(len(e.Drop))]
	case what == 8:
		e.Add = append(e.Add, e.Add[r.Intn(len(e.Add))])
	default:
		m := &e.Add[r.Intn(len(e.Add))].Meta
		m.Lo, m.Hi = m.Hi, m.Lo
	}
	return e
}

// someEdit: mostly one that can be.
func someEdit(r *rand.Rand, v Version) Edit {
	e := Edit{Log: v.Log, Next: max(v.Next, 1), Seq: v.Seq + int64(r.Intn(3))}
	for _, p := range modelTables(v) {
		if r.Intn(8) == 0 {
			e.Drop = append(e.Drop, p.Meta.File)
		}
	}
	r.Shuffle(len(e.Drop), func(i, j int) { e.Drop[i], e.Drop[j] = e.Drop[j], e.Drop[i] })
	for range pick(r, 0, 1, 1, 2, 3) {
		e.Add = append(e.Add, somePlace(r, e.Next))
		e.Next += pick[int64](r, 1, 1, 2)
	}
	r.Shuffle(len(e.Add), func(i, j int) { e.Add[i], e.Add[j] = e.Add[j], e.Add[i] })
	e.Log = pick(r, e.Log, e.Log, e.Next-1)
	if r.Intn(3) == 0 {
		e = spoiled(r, v, e)
	}
	return e
}

// wantAsked: what is asked of a version is what the model's words say.
func wantAsked(t *testing.T, r *rand.Rand, v Version) {
	t.Helper()
	e := v.Whole()
	if want := (Edit{Add: modelTables(v), Log: v.Log, Next: v.Next, Seq: v.Seq}); !sameEdit(e, want) {
		t.Errorf("P14.3: Whole of %s is %s, not %s", said(v), said(e), said(want))
	}
	wantApply(t, "the none version's, of Whole's edit", Version{}, e, v, api.OK)
	var files []int64
	for _, p := range modelTables(v) {
		files = append(files, p.Meta.File)
	}
	slices.Sort(files)
	wantFiles(t, v, files...)
	level, lo, hi := r.Intn(6)-1, someKey(r), someKey(r)
	var over []Meta
	for _, p := range modelTables(v) {
		if p.Level == level && p.Meta.Hi >= lo && p.Meta.Lo <= hi {
			over = append(over, p.Meta)
		}
	}
	wantOver(t, v, level, lo, hi, over...)
}

// TestModel: versions through many edits.
func TestModel(t *testing.T) {
	r := rand.New(rand.NewSource(1))
	reasons := map[objection]int{}
	tables := 0
	for range 2500 {
		var v Version
		for range 20 {
			e := someEdit(r, v)
			var reason objection
			v, reason = same(t, v, e)
			reasons[reason]++
			tables = max(tables, len(modelTables(v)))
			wantAsked(t, r, v)
			wantPut(t, "the model", e, modelPut(e))
		}
		if t.Failed() {
			return
		}
	}
	for _, reason := range []objection{
		"", "log", "next", "seq", "log not below next", "drops what isn't there", "drops twice", "level", "file below 0", "file not below next",
		"adds what it drops", "adds what is there", "adds twice", "size", "lo above hi", "common",
	} {
		if reasons[reason] < 50 {
			t.Errorf("%q was the answer %d times: too few to tell anything", reason, reasons[reason])
		}
	}
	if tables < 15 {
		t.Errorf("there were at most %d tables: too few to tell anything", tables)
	}
}

// damaged: bytes of which a few are otherwise, left out, or there once more.
func damaged(r *rand.Rand, s string) string {
	b := []byte(s)
	for range r.Intn(4) {
		at := r.Intn(len(b) + 1)
		end := min(len(b), at+r.Intn(3))
		more := []byte{pick(r, 0, 1, 2, 3, 6, 8, 0x7f, 0x80, 0x81, 0xff, byte(r.Intn(256)))}
		switch r.Intn(4) {
		case 0:
			b = b[:at]
		case 1:
			b = slices.Insert(b, at, more...)
		case 2:
			b = slices.Replace(b, at, end, more...)
		default:
			b = slices.Delete(b, at, end)
		}
	}
	return string(b)
}

func wantAsModel(t *testing.T, s string) api.Errno {
	t.Helper()
	want, why := modelGet(s)
	wantGet(t, "the model", s, want, why)
	if why != api.OK {
		return why
	}
	// There is one text alone of the same edit.
	if again := Put(want); again != s {
		t.Errorf("P14.2: what is got of %x is put as %x", s, again)
	}
	return why
}

// someNumber: any one; small ones more often.
func someNumber(r *rand.Rand) int64 {
	return pick(r, int64(r.Intn(100)-50), int64(r.Intn(100000)), int64(r.Uint64()), least, greatest)
}

func TestBytesModel(t *testing.T) {
	r := rand.New(rand.NewSource(1))
	gets := map[api.Errno]int{}
	for range 20000 {
		e := Edit{Log: someNumber(r), Next: someNumber(r), Seq: someNumber(r)}
		for range pick(r, 0, 1, 2, r.Intn(20)) {
			e.Drop = append(e.Drop, someNumber(r))
		}
		for range pick(r, 0, 1, 2, r.Intn(8)) {
			e.Add = append(e.Add, Place{r.Intn(4), Meta{someNumber(r), someNumber(r), someKey(r), someKey(r)}})
		}
		s := modelPut(e)
		wantPut(t, "the model", e, s)
		wantGet(t, "the model", s, e, api.OK)
		gets[wantAsModel(t, damaged(r, s))]++
		if t.Failed() {
			return
		}
	}
	if gets[api.OK] < 1000 || gets[api.ErrShort] < 1000 || gets[api.ErrForm] < 1000 || gets[api.ErrLong] < 100 {
		t.Errorf("Get told %v: too few to tell anything", gets)
	}
}

// TestSmall: all texts of up to six of a few bytes, alone, behind the numbers, and behind a count of adds.
func TestSmall(t *testing.T) {
	few := []byte{0, 1, 2, 4, 6, 8, 0x80, 0xff}
	var all func(s []byte, left int)
	all = func(s []byte, left int) {
		for _, head := range []string{"", "\x02\x04\x06", "\x02\x04\x06\x00\x02"} {
			wantAsModel(t, head+string(s))
		}
		if left == 0 || t.Failed() {
			return
		}
		for _, b := range few {
			all(append(s, b), left-1)
		}
	}
	all(nil, 6)
}
