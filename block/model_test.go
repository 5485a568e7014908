package block

import (
	"encoding/binary"
	"math"
	"math/rand"
	"slices"
	"strings"
	"testing"

	"oxbow/api"
)

// The model is the document's words, said once more and apart from the program: the library's numbers, and errors that are answered step by step.

// number: the bytes of a number.
func number(n int64) []byte { return binary.AppendVarint(nil, n) }

// modelFault: the error of an entry, behind another one if there is one.
func modelFault(ahead *api.Entry, e api.Entry) api.Errno {
	switch {
	case len(e.Key) > 64, len(e.Value) > 512:
		return api.ErrLong
	case len(e.Key) == 0, e.Seq <= 0, e.Until < 0, e.Gone && e.Value != "", e.Gone && e.Until > 0:
		return api.ErrArg
	case e.Until+1 < 0:
		return api.ErrArg
	case ahead == nil:
		return api.OK
	}
	c := strings.Compare(ahead.Key, e.Key)
	if c > 0 || c == 0 && ahead.Seq <= e.Seq {
		return api.ErrOrder
	}
	return api.OK
}

func modelOrdered(entries []api.Entry) (int, api.Errno) {
	var ahead *api.Entry
	for i := range entries {
		if why := modelFault(ahead, entries[i]); why != api.OK {
			return i, why
		}
		ahead = &entries[i]
	}
	return 0, api.OK
}

// modelShared: how many bytes there are with which both begin.
func modelShared(a, b string) int {
	n := 0
	for n < len(a) && strings.HasPrefix(b, a[:n+1]) {
		n++
	}
	return n
}

// modelEntries: the bytes of entries of which each shares as many as is told.
func modelEntries(entries []api.Entry, shared func(i int) int) string {
	var b []byte
	for i, e := range entries {
		n := shared(i)
		b = binary.AppendVarint(b, int64(n))
		b = append(binary.AppendVarint(b, int64(len(e.Key)-n)), e.Key[n:]...)
		b = binary.AppendVarint(b, e.Seq)
		if e.Gone {
			b = append(b, 0)
			continue
		}
		b = binary.AppendVarint(b, e.Until+1)
		b = append(binary.AppendVarint(b, int64(len(e.Value))), e.Value...)
	}
	return string(b)
}

func modelBuild(entries []api.Entry, every int) (string, api.Errno) {
	if every <= 0 || every >= 65 {
		return "", api.ErrArg
	}
	if len(entries) >= 4097 {
		return "", api.ErrLong
	}
	if _, why := modelOrdered(entries); why != api.OK {
		return "", why
	}
	return string(number(int64(len(entries)))) + modelEntries(entries, func(i int) int {
		if i%every == 0 {
			return 0
		}
		return modelShared(entries[i-1].Key, entries[i].Key)
	}), api.OK
}

// modelNumber: a number, and what is left behind it.
func modelNumber(s string) (int64, string, api.Errno) {
	n, count := binary.Varint([]byte(s))
	switch {
	case count == 0 && len(s) < 10:
		return 0, "", api.ErrShort
	case count <= 0 || len(number(n)) != count:
		return 0, "", api.ErrForm
	}
	return n, s[count:], api.OK
}

// modelText: a text, and what is left behind it.
func modelText(s string) (string, string, api.Errno) {
	n, s, why := modelNumber(s)
	switch {
	case why != api.OK:
		return "", "", why
	case n < 0:
		return "", "", api.ErrForm
	case n > 65535:
		return "", "", api.ErrLong
	case n > int64(len(s)):
		return "", "", api.ErrShort
	}
	return s[:n], s[n:], api.OK
}

// modelKey: a key behind another one, and what is left behind it.
func modelKey(ahead *api.Entry, s string) (string, string, api.Errno) {
	n, s, why := modelNumber(s)
	if why != api.OK {
		return "", "", why
	}
	if n < 0 || n > 0 && (ahead == nil || n > int64(len(ahead.Key))) {
		return "", "", api.ErrForm
	}
	rest, s, why := modelText(s)
	if why != api.OK || n == 0 {
		return rest, s, why
	}
	return ahead.Key[:n] + rest, s, api.OK
}

// modelEntry: an entry behind another one, and what is left behind it.
func modelEntry(ahead *api.Entry, s string) (e api.Entry, left string, why api.Errno) {
	if e.Key, s, why = modelKey(ahead, s); why != api.OK {
		return e, "", why
	}
	if e.Seq, s, why = modelNumber(s); why != api.OK {
		return e, "", why
	}
	n, s, why := modelNumber(s)
	if why == api.OK && n < 0 {
		why = api.ErrForm
	}
	if why != api.OK {
		return e, "", why
	}
	if e.Gone = n == 0; !e.Gone {
		e.Until = n - 1
		if e.Value, s, why = modelText(s); why != api.OK {
			return e, "", why
		}
	}
	return e, s, modelFault(ahead, e)
}

func modelParse(s string) ([]api.Entry, api.Errno) {
	n, s, why := modelNumber(s)
	switch {
	case why != api.OK:
		return nil, why
	case n > 4096:
		return nil, api.ErrLong
	case n < 0:
		return nil, api.ErrForm
	}
	var entries []api.Entry
	var ahead *api.Entry
	for ; n > 0; n-- {
		var e api.Entry
		if e, s, why = modelEntry(ahead, s); why != api.OK {
			return nil, why
		}
		entries = append(entries, e)
		ahead = &e
	}
	if s != "" {
		return nil, api.ErrForm
	}
	return entries, api.OK
}

// modelFind: all are gone through, in any order they may have.
func modelFind(entries []api.Entry, key string, seq int64) (best api.Entry, there bool) {
	for _, e := range entries {
		if e.Key == key && e.Seq <= seq && (!there || e.Seq > best.Seq) {
			best, there = e, true
		}
	}
	return best, there
}

// pick: one of a few.
func pick[T any](r *rand.Rand, of ...T) T { return of[r.Intn(len(of))] }

func someKey(r *rand.Rand) string {
	var b strings.Builder
	for range 1 + r.Intn(5) {
		b.WriteString(pick(r, "a", "a", "b", "\x00", "\x80", "\xff"))
	}
	return b.String()
}

func someEntry(r *rand.Rand) api.Entry {
	e := api.Entry{Key: someKey(r), Seq: pick(r, 1+r.Int63n(5), 1+r.Int63n(5), 1+r.Int63n(200), math.MaxInt64)}
	switch r.Intn(4) {
	case 0:
		e.Gone = true
	case 1:
		e.Until = pick(r, 1, 63, 64, int64(r.Uint64()>>1), math.MaxInt64-1)
	default:
		e.Value = strings.Repeat(pick(r, "v", "\x00", "\x80"), r.Intn(9))
	}
	switch r.Intn(200) {
	case 0:
		e.Key = strings.Repeat("k", pick(r, 0, 63, 64, 65, 300))
	case 1:
		e.Value = strings.Repeat("v", pick(r, 0, 511, 512, 513, 900))
	case 2:
		e.Until = pick[int64](r, math.MinInt64, -1, 0, math.MaxInt64-1, math.MaxInt64)
	case 3:
		e.Seq = pick[int64](r, math.MinInt64, -1, 0, 1, math.MaxInt64)
	}
	return e
}

// someEntries: most often in order.
func someEntries(r *rand.Rand) []api.Entry {
	entries := make([]api.Entry, pick(r, r.Intn(4), r.Intn(4), r.Intn(20), r.Intn(150)))
	for i := range entries {
		entries[i] = someEntry(r)
	}
	slices.SortFunc(entries, func(a, b api.Entry) int {
		if c := strings.Compare(a.Key, b.Key); c != 0 {
			return c
		}
		switch {
		case a.Seq > b.Seq:
			return -1
		case a.Seq < b.Seq:
			return 1
		}
		return 0
	})
	if r.Intn(8) > 0 {
		entries = slices.CompactFunc(entries, func(a, b api.Entry) bool { return a.Key == b.Key && a.Seq == b.Seq })
	}
	if n := len(entries); n > 1 && r.Intn(10) == 0 {
		i, k := r.Intn(n), r.Intn(n)
		entries[i], entries[k] = entries[k], entries[i]
	}
	return entries
}

// otherwise: the bytes of entries that share more or less than Build has them do.
func otherwise(r *rand.Rand, entries []api.Entry) string {
	return string(number(int64(len(entries)))) + modelEntries(entries, func(i int) int {
		if i == 0 {
			return 0
		}
		return r.Intn(modelShared(entries[i-1].Key, entries[i].Key) + 1)
	})
}

// damaged: bytes of which a few are otherwise, left out, or there once more.
func damaged(r *rand.Rand, s string) string {
	b := []byte(s)
	for range r.Intn(4) {
		at := r.Intn(len(b) + 1)
		end := min(len(b), at+r.Intn(3))
		more := []byte{pick(r, 0, 1, 2, 3, 4, 0x7f, 0x80, 0x81, 0xff, byte(r.Intn(256)))}
		switch r.Intn(4) {
		case 0:
			b = b[:at]
		case 1:
			b = slices.Insert(b, at, more...)
		case 2:
			b = slices.Replace(b, at, end, more...)
		default:
			b = slices.Delete(b, at, end)
		}
	}
	return string(b)
}

// wantAsModel: Parse, and Find of a few, tell of any bytes what the model does.
func wantAsModel(t *testing.T, s, key string, seq int64) api.Errno {
	t.Helper()
	want, why := modelParse(s)
	wantParse(t, "the model", s, want, why)
	found, there := modelFind(want, key, seq)
	wantFind(t, "the model", s, key, seq, found, there, why)
	return why
}

func TestModel(t *testing.T) {
	r := rand.New(rand.NewSource(1))
	orders, parses, finds := map[api.Errno]int{}, map[api.Errno]int{}, 0
	for range 15000 {
		entries, every := someEntries(r), 1+r.Intn(64)
		if r.Intn(20) == 0 {
			every = r.Intn(200) - 50
		}
		at, why := modelOrdered(entries)
		wantOrdered(t, "the model", entries, at, why)
		orders[why]++
		s, e := modelBuild(entries, every)
		wantBuild(t, "the model", entries, every, s, e)
		if why == api.OK {
			s = otherwise(r, entries)
			wantParse(t, "the model", s, entries, api.OK)
		}
		if e != api.OK && why != api.OK {
			continue
		}
		for range 4 {
			key, seq := someKey(r), r.Int63n(9)-1
			if n := len(entries); n > 0 && r.Intn(4) > 0 {
				key = entries[r.Intn(n)].Key
			}
			found, there := modelFind(entries, key, seq)
			wantFind(t, "the model", s, key, seq, found, there, api.OK)
			if there {
				finds++
			}
			parses[wantAsModel(t, damaged(r, s), key, seq)]++
		}
		if t.Failed() {
			return
		}
	}
	if orders[api.OK] < 3000 || orders[api.ErrArg] < 300 || orders[api.ErrLong] < 300 || orders[api.ErrOrder] < 300 {
		t.Errorf("Ordered told %v: too few to tell anything", orders)
	}
	if parses[api.OK] < 3000 || parses[api.ErrShort] < 1000 || parses[api.ErrForm] < 1000 || parses[api.ErrLong] < 100 || parses[api.ErrArg] < 100 || parses[api.ErrOrder] < 100 {
		t.Errorf("Parse told %v: too few to tell anything", parses)
	}
	if finds < 3000 {
		t.Errorf("Find found %d: too few to tell anything", finds)
	}
}

// TestSmall: all texts of one entry and of two that are made of a few bytes.
func TestSmall(t *testing.T) {
	few := []byte{0, 1, 2, 4, 0x61, 0x80}
	var all func(s []byte, left int)
	all = func(s []byte, left int) {
		wantAsModel(t, string(s), "a", 2)
		if left == 0 || t.Failed() {
			return
		}
		for _, b := range few {
			all(append(s, b), left-1)
		}
	}
	all(nil, 7)
	all([]byte("\x04\x00\x02a\x04\x00"), 5)
	all([]byte("\x04\x00\x04aa\x04\x02\x00"), 5)
	all([]byte("\x06\x00\x02a\x04\x00\x02\x02a\x02\x00"), 4)
}
