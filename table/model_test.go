package table

import (
	"encoding/binary"
	"fmt"
	"hash/crc32"
	"math"
	"math/rand"
	"slices"
	"strings"
	"testing"

	"oxbow/api"
	"oxbow/block"
	"oxbow/bloom"
	"oxbow/varint"
)

// The model is the document's words, said once more and apart from the program: errors are answered step by step, and lists gone through from the left.

// modelTable is what a table tells, and its bytes.
type modelTable struct {
	s      string
	spans  []Span
	filter string
}

// modelFrame: layer 3's words, of the frame with which bytes begin, and how many it has.
func modelFrame(s string) (string, int, api.Errno) {
	switch {
	case s == "":
		return "", 0, api.ErrNone
	case len(s) < 4:
		return "", 0, api.ErrShort
	case s[0]^s[2] != 255 || s[1]^s[3] != 255:
		return "", 0, api.ErrForm
	}
	n := 8 + int(binary.BigEndian.Uint16([]byte(s)))
	switch {
	case len(s) < n:
		return "", 0, api.ErrShort
	case binary.BigEndian.Uint32([]byte(s[4:])) != crc32.ChecksumIEEE([]byte(s[8:n])):
		return "", 0, api.ErrSum
	}
	return s[8:n], n, api.OK
}

// modelJust: the body of the one frame that bytes must be.
func modelJust(s string) (string, api.Errno) {
	body, n, e := modelFrame(s)
	if e == api.OK && n != len(s) {
		return "", api.ErrForm
	}
	return body, e
}

// modelGroups: the entries of each block.
func modelGroups(entries []api.Entry, size int) [][]api.Entry {
	var groups [][]api.Entry
	bytes := 0
	for _, entry := range entries {
		n := len(groups)
		if n == 0 || len(groups[n-1]) >= 2048 || bytes >= size {
			groups, bytes = append(groups, nil), 0
			n++
		}
		groups[n-1] = append(groups[n-1], entry)
		bytes += len(entry.Key + entry.Value)
	}
	return groups
}

func modelBuild(entries []api.Entry, size, bits int) (string, api.Errno) {
	if size <= 0 || size >= 4097 || bits <= 0 || bits >= 17 {
		return "", api.ErrArg
	}
	if len(entries) >= 65537 {
		return "", api.ErrLong
	}
	if _, e := block.Ordered(entries); e != api.OK {
		return "", e
	}
	groups := modelGroups(entries, size)
	s, index := "", number(int64(len(groups)))
	for _, group := range groups {
		body, _ := block.Build(group, 16)
		f := frames(body)
		index += text(group[len(group)-1].Key) + number(int64(len(s))) + number(int64(len(f)))
		s += f
	}
	var names []string
	for _, entry := range entries {
		if !slices.Contains(names, entry.Key) {
			names = append(names, entry.Key)
		}
	}
	filter, _ := bloom.New(bits, names...)
	if len(index) > 65535 || len(filter) > 65535 {
		return "", api.ErrLong
	}
	return s + ended(len(s), index, filter), api.OK
}

func modelOpen(s string) (*modelTable, api.Errno) {
	if len(s) < 24 {
		return nil, api.ErrShort
	}
	end := len(s) - 24
	body, e := modelJust(s[end:])
	if e != api.OK {
		return nil, e
	}
	at, filterAt := binary.BigEndian.Uint64([]byte(body[:8])), binary.BigEndian.Uint64([]byte(body[8:]))
	if at > uint64(end) || filterAt > uint64(end) || at > filterAt {
		return nil, api.ErrForm
	}
	index, e := modelJust(s[at:filterAt])
	if e != api.OK {
		return nil, e
	}
	filter, e := modelJust(s[filterAt:end])
	if e != api.OK {
		return nil, e
	}
	spans, e := modelIndex(index, int64(at))
	if e != api.OK {
		return nil, e
	}
	return &modelTable{s, spans, filter}, api.OK
}

// modelIndex: the blocks that an index's body tells, which stands at a place.
func modelIndex(s string, place int64) ([]Span, api.Errno) {
	count, next, e := varint.Get(s, 0)
	if e == api.OK && count < 0 {
		e = api.ErrForm
	}
	if e != api.OK {
		return nil, e
	}
	var spans []Span
	behind := int64(0)
	for ; count > 0; count-- {
		var key string
		var at, n int64
		if key, next, e = varint.GetText(s, next); e != api.OK {
			return nil, e
		}
		if at, next, e = varint.Get(s, next); e != api.OK {
			return nil, e
		}
		if n, next, e = varint.Get(s, next); e != api.OK {
			return nil, e
		}
		if at != behind || n < 8 || n > place || at+n > place {
			return nil, api.ErrForm
		}
		if len(spans) > 0 && strings.Compare(key, spans[len(spans)-1].Last) < 0 {
			return nil, api.ErrForm
		}
		spans = append(spans, Span{key, int(at), int(n)})
		behind = at + n
	}
	if next < len(s) || behind != place {
		return nil, api.ErrForm
	}
	return spans, api.OK
}

func (m *modelTable) which(key string) int {
	for i, span := range m.spans {
		if strings.Compare(span.Last, key) >= 0 {
			return i
		}
	}
	return len(m.spans)
}

func (m *modelTable) block(i int) (string, api.Errno) {
	if i < 0 || i >= len(m.spans) {
		return "", api.ErrArg
	}
	return modelJust(m.s[m.spans[i].At : m.spans[i].At+m.spans[i].N])
}

func (m *modelTable) all(key string) ([]api.Entry, api.Errno) {
	var l []api.Entry
	var ahead *api.Entry
	for i := m.which(key); i < len(m.spans); i++ {
		body, e := m.block(i)
		if e != api.OK {
			return nil, e
		}
		entries, e := block.Parse(body)
		if e != api.OK {
			return nil, e
		}
		if len(entries) == 0 || entries[len(entries)-1].Key != m.spans[i].Last {
			return nil, api.ErrForm
		}
		if ahead != nil && (ahead.Key > entries[0].Key || ahead.Key == entries[0].Key && ahead.Seq <= entries[0].Seq) {
			return nil, api.ErrForm
		}
		ahead = &entries[len(entries)-1]
		for _, entry := range entries {
			if strings.Compare(entry.Key, key) >= 0 {
				l = append(l, entry)
			}
		}
	}
	return l, api.OK
}

// pick: one of a few.
func pick[T any](r *rand.Rand, of ...T) T { return of[r.Intn(len(of))] }

func someKey(r *rand.Rand) string {
	var b strings.Builder
	for range 1 + r.Intn(4) {
		b.WriteString(pick(r, "a", "a", "b", "\x00", "\xff"))
	}
	return b.String()
}

func someEntry(r *rand.Rand) api.Entry {
	e := api.Entry{Key: someKey(r), Seq: pick(r, 1+r.Int63n(5), 1+r.Int63n(200), math.MaxInt64)}
	switch r.Intn(4) {
	case 0:
		e.Gone = true
	case 1:
		e.Until = pick(r, 1, 63, 64, int64(r.Uint64()>>1), math.MaxInt64-1)
	default:
		e.Value = strings.Repeat(pick(r, "v", "\x00", "\x80"), pick(r, r.Intn(4), r.Intn(20), r.Intn(513)))
	}
	switch r.Intn(500) {
	case 0:
		e.Key = strings.Repeat("k", pick(r, 0, 63, 64, 65))
	case 1:
		e.Value = strings.Repeat("v", pick(r, 0, 511, 512, 513))
	case 2:
		e.Until = pick[int64](r, math.MinInt64, -1, 0, math.MaxInt64-1, math.MaxInt64)
	case 3:
		e.Seq = pick[int64](r, math.MinInt64, -1, 0, 1)
	}
	return e
}

// someEntries: most often in order.
func someEntries(r *rand.Rand) []api.Entry {
	l := make([]api.Entry, pick(r, r.Intn(4), r.Intn(20), r.Intn(60)))
	for i := range l {
		l[i] = someEntry(r)
	}
	slices.SortFunc(l, func(a, b api.Entry) int {
		if c := strings.Compare(a.Key, b.Key); c != 0 {
			return c
		}
		switch {
		case a.Seq > b.Seq:
			return -1
		case a.Seq < b.Seq:
			return 1
		}
		return 0
	})
	if r.Intn(20) > 0 {
		l = slices.CompactFunc(l, func(a, b api.Entry) bool { return a.Key == b.Key && a.Seq == b.Seq })
	}
	if n := len(l); n > 1 && r.Intn(20) == 0 {
		i, k := r.Intn(n), r.Intn(n)
		l[i], l[k] = l[k], l[i]
	}
	return l
}

func someSize(r *rand.Rand) int {
	return pick(r, 1, 2, 4, 1+r.Intn(30), 1+r.Intn(600), 1+r.Intn(4096), 4096)
}

// damaged: bytes of which a few are otherwise, left out, or there once more.
func damaged(r *rand.Rand, s string) string {
	b := []byte(s)
	for range 1 + r.Intn(3) {
		at := r.Intn(len(b) + 1)
		end := min(len(b), at+r.Intn(3))
		more := []byte{pick(r, 0, 1, 2, 3, 4, 0x7f, 0x80, 0xff, byte(r.Intn(256)))}
		if r.Intn(10) == 0 {
			more = []byte("\x80\x80\x08")
		}
		switch r.Intn(5) {
		case 0:
			b = b[:at]
		case 1:
			b = slices.Insert(b, at, more...)
		case 2:
			b = slices.Replace(b, at, end, more...)
		case 3:
			b = append(b, more...)
		default:
			b = slices.Delete(b, at, end)
		}
	}
	return string(b)
}

// otherwise: a table of entries, of which something that a check sum covers is otherwise than Build has it.
func otherwise(r *rand.Rand, entries []api.Entry, size, bits int) string {
	var pieces []piece
	for _, group := range modelGroups(entries, size) {
		body, _ := block.Build(group, 16)
		p := piece{group[len(group)-1].Key, frames(body)}
		switch r.Intn(30) {
		case 0:
			p.bytes = frames(damaged(r, body))
		case 1:
			p.bytes = frames(body[:r.Intn(len(body))]) + strings.Repeat("x", r.Intn(2))
		case 2:
			p.bytes += pick(r, "x", "\x00", p.bytes)
		case 3:
			p.last = someKey(r)
		case 4:
			p.bytes = frames("\x00")
		case 5:
			p.bytes = p.bytes[:8+r.Intn(len(body))]
		case 6:
			p.bytes = frames("\x04\x00\x02a\x02\x00\x00\x02a\x02\x00")
		}
		pieces = append(pieces, p)
	}
	if n := len(pieces); n > 1 && r.Intn(3) == 0 {
		i := r.Intn(n - 1)
		// Two blocks that aren't in order, with an index that is.
		pieces[i].bytes, pieces[i+1].bytes = pieces[i+1].bytes, pieces[i].bytes
		if r.Intn(2) == 0 {
			body, _, _ := modelFrame(pieces[i].bytes)
			if in, _ := block.Parse(body); len(in) > 0 {
				pieces[i].last, pieces[i+1].last = in[len(in)-1].Key, in[len(in)-1].Key
			}
		}
	}
	filter, _ := bloom.New(bits)
	s := laid(pick(r, filter, "", "\x01\x00", "\x08\xff"), pieces...)
	if r.Intn(3) > 0 {
		return s
	}
	return withOther(r, s)
}

// withOther: a table whose index, or foot, is otherwise, under check sums that are right.
func withOther(r *rand.Rand, s string) string {
	at, filterAt := binary.BigEndian.Uint64([]byte(s[len(s)-16:])), binary.BigEndian.Uint64([]byte(s[len(s)-8:]))
	blocks, filter := s[:at], s[filterAt:len(s)-24]
	index, _, _ := modelFrame(s[at:])
	if r.Intn(2) == 0 {
		f := frames(damaged(r, index))
		return blocks + f + filter + frames(foot(at, at+uint64(len(f))))
	}
	moved := func(n uint64) uint64 { return n + pick(r, 0, 1, 8, 24, 1<<63, math.MaxUint64, math.MaxUint64-7, -n) }
	if end := uint64(len(s) - 24); r.Intn(4) == 0 {
		return s[:end] + frames(pick(r, foot(at, at), foot(filterAt, filterAt), foot(at, end), foot(filterAt, end), foot(end, end)))
	}
	return s[:len(s)-24] + frames(foot(moved(at), moved(filterAt)))
}

// wantAsModel: all that is told of bytes is what the model tells.
func wantAsModel(t *testing.T, s string, some []string, told map[string]int) {
	t.Helper()
	m, why := modelOpen(s)
	wantRead(t, "the model", s, why)
	told[fmt.Sprintf("Open %d", why)]++
	if why != api.OK || t.Failed() {
		return
	}
	table := opened(t, s)
	wantSpans(t, "the model", table, m.spans)
	for i := -1; i <= len(m.spans); i++ {
		body, e := m.block(i)
		wantBlock(t, "the model", table, i, body, e)
		told[fmt.Sprintf("Block %d", e)]++
	}
	for _, key := range some {
		wantMay(t, "the model", table, key, bloom.Has(m.filter, key))
		wantWhich(t, "the model", table, key, m.which(key))
		l, e := m.all(key)
		wantAll(t, "the model", table, key, l, e)
		told[fmt.Sprintf("All %d", e)]++
	}
}

func TestModel(t *testing.T) {
	r := rand.New(rand.NewSource(1))
	builds, told := map[api.Errno]int{}, map[string]int{}
	for range 5000 {
		entries, size, bits := someEntries(r), someSize(r), 1+r.Intn(16)
		if r.Intn(20) == 0 {
			size, bits = r.Intn(8000)-2000, r.Intn(40)-10
		}
		s, e := modelBuild(entries, size, bits)
		wantBuild(t, "the model", entries, size, bits, s, e)
		builds[e]++
		if t.Failed() {
			return
		}
		if e != api.OK {
			continue
		}
		some := []string{"", someKey(r), someKey(r)}
		if n := len(entries); n > 0 {
			some = append(some, entries[r.Intn(n)].Key, entries[n-1].Key+"\x00")
		}
		wantAsModel(t, s, some, told)
		wantAsModel(t, damaged(r, s), some, told)
		for range 3 {
			wantAsModel(t, otherwise(r, entries, size, bits), some, told)
		}
		if t.Failed() {
			return
		}
	}
	if builds[api.OK] < 2000 || builds[api.ErrArg] < 100 || builds[api.ErrLong] < 20 || builds[api.ErrOrder] < 20 {
		t.Errorf("Build told %v: too few to tell anything", builds)
	}
	for what, n := range map[string]int{"Open 0": 8000, "Open 3": 100, "Open 4": 500, "Open 5": 10, "Open 6": 100, "Open 10": 50,
		"Block 0": 10000, "Block 2": 10000, "Block 3": 20, "Block 4": 100, "Block 6": 100,
		"All 0": 10000, "All 2": 20, "All 3": 100, "All 4": 1000, "All 5": 0, "All 6": 20, "All 16": 20} {
		if told[what] < n {
			t.Errorf("%s was told %d times: too few to tell anything: %v", what, told[what], told)
		}
	}
}

// TestSmallIndexes: all indexes of a few bytes.
func TestSmallIndexes(t *testing.T) {
	few := []byte{0, 1, 2, 4, 0x10, 0x12, 0x61, 0x80}
	var all func(s string, place, left int)
	all = func(s string, place, left int) {
		want, why := modelIndex(s, int64(place))
		wantIndex(t, "all of a few bytes", place, s, want, why)
		if left == 0 || t.Failed() {
			return
		}
		for _, b := range few {
			all(s+string([]byte{b}), place, left-1)
		}
	}
	all("", 0, 4)
	all("\x02", 8, 4)
	all("\x04\x00\x00\x10", 16, 4)
	all("\x04\x02a\x00\x12", 17, 4)
}
