package batch

import (
	"encoding/binary"
	"math"
	"math/rand"
	"slices"
	"strings"
	"testing"

	"oxbow/api"
)

// The model is the document's words, said once more and apart from the program: the library's numbers, and errors that are answered step by step.

func modelGood(item api.Entry) api.Errno {
	if len(item.Key) > 64 || len(item.Value) > 512 {
		return api.ErrLong
	}
	if item.Key == "" || item.Until < 0 || item.Gone && item.Value != "" || item.Gone && item.Until > 0 {
		return api.ErrArg
	}
	return api.OK
}

func modelPut(items []api.Entry) (string, api.Errno) {
	if len(items) >= 65 {
		return "", api.ErrLong
	}
	b := binary.AppendVarint(nil, int64(len(items)))
	for _, item := range items {
		why := modelGood(item)
		if why == api.OK && item.Until+1 < 0 {
			why = api.ErrArg
		}
		if why != api.OK {
			return "", why
		}
		b = append(binary.AppendVarint(b, int64(len(item.Key))), item.Key...)
		if item.Gone {
			b = append(b, 0)
		} else {
			b = binary.AppendVarint(b, item.Until+1)
			b = append(binary.AppendVarint(b, int64(len(item.Value))), item.Value...)
		}
	}
	return string(b), api.OK
}

// modelNumber: a number, and what is left behind it.
func modelNumber(s string) (int64, string, api.Errno) {
	n, count := binary.Varint([]byte(s))
	switch {
	case count == 0 && len(s) < 10:
		return 0, "", api.ErrShort
	case count <= 0 || len(binary.AppendVarint(nil, n)) != count:
		return 0, "", api.ErrForm
	}
	return n, s[count:], api.OK
}

// modelText: a text, and what is left behind it.
func modelText(s string) (string, string, api.Errno) {
	n, s, why := modelNumber(s)
	switch {
	case why != api.OK:
		return "", "", why
	case n < 0:
		return "", "", api.ErrForm
	case n > 65535:
		return "", "", api.ErrLong
	case n > int64(len(s)):
		return "", "", api.ErrShort
	}
	return s[:n], s[n:], api.OK
}

func modelItem(s string) (api.Entry, string, api.Errno) {
	key, s, why := modelText(s)
	if why != api.OK {
		return api.Entry{}, "", why
	}
	n, s, why := modelNumber(s)
	if why == api.OK && n < 0 {
		why = api.ErrForm
	}
	if why != api.OK {
		return api.Entry{}, "", why
	}
	item := api.Entry{Key: key, Gone: true}
	if n > 0 {
		item.Gone, item.Until = false, n-1
		item.Value, s, why = modelText(s)
	}
	if why == api.OK {
		why = modelGood(item)
	}
	return item, s, why
}

func modelGet(s string) ([]api.Entry, api.Errno) {
	n, s, why := modelNumber(s)
	switch {
	case why != api.OK:
		return nil, why
	case n > 64:
		return nil, api.ErrLong
	case n < 0:
		return nil, api.ErrForm
	}
	var items []api.Entry
	for ; n > 0; n-- {
		var item api.Entry
		if item, s, why = modelItem(s); why != api.OK {
			return nil, why
		}
		items = append(items, item)
	}
	if s != "" {
		return nil, api.ErrForm
	}
	return items, api.OK
}

// pick: one of a few.
func pick[T any](r *rand.Rand, of ...T) T { return of[r.Intn(len(of))] }

func someItem(r *rand.Rand) api.Entry {
	item := api.Entry{Key: strings.Repeat(pick(r, "a", "\x00", "\x80", "\xff"), 1+r.Intn(5)), Seq: int64(r.Uint64())}
	switch r.Intn(4) {
	case 0:
		item.Gone = true
	case 1:
		item.Until = pick(r, 1, 63, 64, int64(r.Uint64()>>1), math.MaxInt64-1)
	default:
		item.Value = strings.Repeat(pick(r, "v", "\x00", "\x80"), r.Intn(9))
	}
	switch r.Intn(100) {
	case 0:
		item.Key = strings.Repeat("k", pick(r, 0, 63, 64, 65, 300))
	case 1:
		item.Value = strings.Repeat("v", pick(r, 0, 511, 512, 513, 900))
	case 2:
		item.Until = pick[int64](r, math.MinInt64, -1, 0, math.MaxInt64-1, math.MaxInt64)
	}
	return item
}

func someItems(r *rand.Rand) []api.Entry {
	items := make([]api.Entry, pick(r, r.Intn(4), r.Intn(4), r.Intn(20), 63+r.Intn(3)))
	for i := range items {
		items[i] = someItem(r)
	}
	return items
}

// damaged: bytes of which a few are otherwise, left out, or there once more.
func damaged(r *rand.Rand, s string) string {
	b := []byte(s)
	for range r.Intn(4) {
		at := r.Intn(len(b) + 1)
		end := min(len(b), at+r.Intn(3))
		more := []byte{pick(r, 0, 1, 2, 3, 0x7f, 0x80, 0x81, 0xff, byte(r.Intn(256)))}
		switch r.Intn(4) {
		case 0:
			b = b[:at]
		case 1:
			b = slices.Insert(b, at, more...)
		case 2:
			b = slices.Replace(b, at, end, more...)
		default:
			b = slices.Delete(b, at, end)
		}
	}
	return string(b)
}

func wantAsModel(t *testing.T, s string) api.Errno {
	t.Helper()
	want, why := modelGet(s)
	wantGet(t, "the model", s, want, why)
	if why != api.OK {
		return why
	}
	// There is one text alone of the same items.
	if again, e := Put(want); again != s || e != api.OK {
		t.Errorf("P7.1: what is got of %x is put as %x, %d", s, again, e)
	}
	return why
}

func TestModel(t *testing.T) {
	r := rand.New(rand.NewSource(1))
	puts, gets := map[api.Errno]int{}, map[api.Errno]int{}
	for range 20000 {
		items := someItems(r)
		s, why := modelPut(items)
		wantPut(t, "the model", items, s, why)
		puts[why]++
		if why == api.OK {
			for i := range items {
				items[i].Seq = 0
			}
			wantGet(t, "the model", s, items, api.OK)
			gets[wantAsModel(t, damaged(r, s))]++
		}
		if t.Failed() {
			return
		}
	}
	if puts[api.OK] < 5000 || puts[api.ErrArg] < 300 || puts[api.ErrLong] < 300 {
		t.Errorf("Put told %v: too few to tell anything", puts)
	}
	if gets[api.OK] < 1000 || gets[api.ErrShort] < 1000 || gets[api.ErrForm] < 1000 || gets[api.ErrLong] < 100 || gets[api.ErrArg] < 100 {
		t.Errorf("Get told %v: too few to tell anything", gets)
	}
}

// TestSmall: all texts of up to six of a few bytes.
func TestSmall(t *testing.T) {
	few := []byte{0, 1, 2, 3, 4, 0x61, 0x80, 0xff}
	var all func(s []byte, left int)
	all = func(s []byte, left int) {
		wantAsModel(t, string(s))
		if left == 0 || t.Failed() {
			return
		}
		for _, b := range few {
			all(append(s, b), left-1)
		}
	}
	all(nil, 6)
}
