package skip

import (
	"fmt"
	"math"
	"math/rand"
	"sort"
	"strings"
	"testing"

	"oxbow/api"
)

// model is the document's words, said once more and apart from the program: the entries in the row in which they were put, and nothing else.
type model struct {
	coins []int
	put   []api.Entry
}

func good(e api.Entry) api.Errno {
	if len(e.Key) > 64 || len(e.Value) > 512 {
		return api.ErrLong
	}
	if len(e.Key) < 1 || e.Seq <= 0 || e.Until < 0 || e.Gone && len(e.Value) > 0 || e.Gone && e.Until > 0 {
		return api.ErrArg
	}
	return api.OK
}

// holds: what an entry holds that was put as the i-th one.
func (m *model) holds(i int, e api.Entry) int64 {
	height := uint64(1)
	if n := len(m.coins); n > 0 {
		c := m.coins[i%n]
		if c < 0 {
			c = ^c // which is -(c + 1)
		}
		height += uint64(c) % 8
	}
	return 40 + 8*int64(height) + int64(len(e.Key)+len(e.Value))
}

func (m *model) putOne(e api.Entry) api.Errno {
	if bad := good(e); bad != api.OK {
		return bad
	}
	for _, p := range m.put {
		if p.Key == e.Key && p.Seq == e.Seq {
			return api.ErrThere
		}
	}
	m.put = append(m.put, e)
	return api.OK
}

func (m *model) get(key string, seq int64) (api.Entry, bool) {
	var best api.Entry
	for _, p := range m.put {
		if p.Key == key && p.Seq <= seq && p.Seq > best.Seq {
			best = p
		}
	}
	return best, best.Seq > 0
}

func (m *model) from(key string) []api.Entry {
	var a []api.Entry
	for _, p := range m.put {
		if p.Key >= key {
			a = append(a, p)
		}
	}
	sort.Slice(a, func(i, j int) bool {
		if a[i].Key == a[j].Key {
			return a[i].Seq > a[j].Seq
		}
		return a[i].Key < a[j].Key
	})
	return a
}

func (m *model) state() state {
	s := state{entries: m.from(""), len: len(m.put), cost: m.holds(len(m.put), api.Entry{})}
	for i, p := range m.put {
		s.size += m.holds(i, p)
	}
	return s
}

// pick: one of a few.
func pick[T any](r *rand.Rand, of ...T) T { return of[r.Intn(len(of))] }

func someKey(r *rand.Rand) string {
	switch r.Intn(12) {
	case 0:
		return pick(r, "", "\x00", "\xff", strings.Repeat("k", 64), strings.Repeat("k", 65))
	case 1:
		return strings.Repeat(pick(r, "a", "b"), r.Intn(70))
	}
	b := make([]byte, r.Intn(4))
	for i := range b {
		b[i] = pick(r, byte(0), 'a', 'b', 'c', 0xff)
	}
	return string(b)
}

func someSeq(r *rand.Rand) int64 {
	switch r.Intn(15) {
	case 0:
		return pick[int64](r, math.MinInt64, -1, 0, math.MaxInt64-1, math.MaxInt64)
	case 1:
		return r.Int63()
	}
	return int64(1 + r.Intn(12))
}

func someEntry(r *rand.Rand) api.Entry {
	e := put(someKey(r), someSeq(r))
	switch r.Intn(8) {
	case 0:
		e.Gone = true
	case 1:
		e.Gone, e.Value = pick(r, true, false), "x"
	case 2:
		e.Gone, e.Until = pick(r, true, false), pick[int64](r, math.MinInt64, -1, 0, 1, math.MaxInt64)
	case 3:
		e.Value = strings.Repeat("v", pick(r, 0, 1, 511, 512, 513, 600))
	default:
		e.Value, e.Until = string(rune('A'+r.Intn(26))), int64(r.Intn(3))
	}
	return e
}

func someCoins(r *rand.Rand) []int {
	coins := make([]int, r.Intn(9))
	for i := range coins {
		coins[i] = pick(r, r.Intn(20), -r.Intn(20), int(r.Uint64()), math.MinInt, math.MaxInt)
	}
	return coins
}

func TestModel(t *testing.T) {
	r := rand.New(rand.NewSource(1))
	told, found := map[api.Errno]int{}, map[bool]int{}
	for range 150 {
		m := &model{coins: someCoins(r)}
		l := New(m.coins...)
		for range 150 {
			e := someEntry(r)
			if n := len(m.put); n > 0 && r.Intn(6) == 0 {
				e.Key, e.Seq = m.put[r.Intn(n)].Key, m.put[r.Intn(n)].Seq
			}
			what := fmt.Sprintf("coins %v, %d entries, %+v", m.coins, len(m.put), e)
			if n, want := l.Cost(e), m.holds(len(m.put), e); n != want {
				t.Fatalf("P6.4: %s: Cost is %d, not %d", what, n, want)
			}
			if bad, want := Good(e), good(e); bad != want {
				t.Fatalf("P6.1: %s: Good is %d, not %d", what, bad, want)
			}
			bad, want := l.Put(e), m.putOne(e)
			if bad != want {
				t.Fatalf("P6.2: %s: Put is %d, not %d", what, bad, want)
			}
			told[bad]++
			wantState(t, what, l, m.state())
			key, seq := someKey(r), someSeq(r)
			wantEntries(t, "P6.3: "+what+": From", all(l, key), m.from(key))
			e, ok := m.get(key, seq)
			wantGet(t, what, l, key, seq, e, ok)
			found[ok]++
			if t.Failed() {
				return
			}
		}
	}
	if told[api.OK] < 1000 || told[api.ErrThere] < 1000 || told[api.ErrArg] < 500 || told[api.ErrLong] < 500 || found[true] < 1000 || found[false] < 1000 {
		t.Errorf("told %v, found %v: too few to tell anything", told, found)
	}
}

// TestMany: with coins that make towers as a skip list wants them many entries are put and found without going through all of them.
func TestMany(t *testing.T) {
	const many = 50000
	r := rand.New(rand.NewSource(1))
	coins := make([]int, 1000)
	for i := range coins {
		for coins[i] < 7 && r.Intn(4) == 0 {
			coins[i]++
		}
	}
	m := &model{coins: coins}
	l := New(coins...)
	size := int64(0)
	for i, at := range r.Perm(many) {
		e := put(fmt.Sprintf("%05d", at/3), int64(1+at%3))
		if bad := l.Put(e); bad != api.OK {
			t.Fatalf("P6.2: Put %d is %d", i, bad)
		}
		size += m.holds(i, e)
	}
	if l.Len() != many || l.Size() != size {
		t.Errorf("P6.4: Len %d, Size %d, not %d, %d", l.Len(), l.Size(), many, size)
	}
	at := 0
	for e := range l.From("") {
		want := put(fmt.Sprintf("%05d", at/3), int64(3-at%3))
		if at/3 == many/3 {
			want.Seq = int64(many - at)
		}
		if e != want {
			t.Fatalf("P6.3: entry %d is %+v, not %+v", at, e, want)
		}
		wantGet(t, "many", l, e.Key, e.Seq, e, true)
		at++
	}
	if at != many {
		t.Errorf("P6.3: %d entries were given", at)
	}
	wantTowers(t, "many", l)
}
