package cache

import (
	"fmt"
	"math"
	"math/rand"
	"slices"
	"strings"
	"testing"

	"oxbow/api"
	"oxbow/budget"
)

// model is the document's words, said once more and apart from the program: what is kept, the one used last first, and what other kinds of the budget hold.
type model struct {
	limit, others int64
	kept          []modelBlock
}

type modelBlock struct {
	key  Key
	data string
	pins int
}

func (m *model) at(k Key) int {
	return slices.IndexFunc(m.kept, func(b modelBlock) bool { return b.key == k })
}

func (m *model) charged() int64 {
	n := int64(0)
	for _, b := range m.kept {
		n += 64 + int64(len(b.data))
	}
	return n
}

func (m *model) left() int64 { return m.limit - m.others - m.charged() }

// shrink: all that aren't pinned are dropped one by one, the last of the list first, till enough is left; if it never is, all stand as they stood.
func (m *model) shrink(n int64) bool {
	was := slices.Clone(m.kept)
	for m.left() < n {
		at := len(m.kept) - 1
		for at >= 0 && m.kept[at].pins > 0 {
			at--
		}
		if at < 0 {
			m.kept = was
			return false
		}
		m.kept = slices.Delete(m.kept, at, at+1)
	}
	return true
}

func (m *model) put(k Key, data string) api.Errno {
	if m.at(k) >= 0 {
		return api.ErrThere
	}
	if !m.shrink(64 + int64(len(data))) {
		return api.ErrBudget
	}
	m.kept = slices.Insert(m.kept, 0, modelBlock{k, data, 0})
	return api.OK
}

func (m *model) get(k Key) (string, bool) {
	at := m.at(k)
	if at < 0 {
		return "", false
	}
	b := m.kept[at]
	m.kept = slices.Insert(slices.Delete(m.kept, at, at+1), 0, b)
	return b.data, true
}

func (m *model) pin(k Key) bool {
	at := m.at(k)
	if at >= 0 {
		m.kept[at].pins++
	}
	return at >= 0
}

func (m *model) unpin(k Key) bool {
	at := m.at(k)
	if at < 0 || m.kept[at].pins == 0 {
		return false
	}
	m.kept[at].pins--
	return true
}

func (m *model) drop(file int64) {
	m.kept = slices.DeleteFunc(m.kept, func(b modelBlock) bool { return b.key.File == file })
}

// pair is a cache and its model, which are asked the same.
type pair struct {
	c    *Cache
	b    *budget.Budget
	m    *model
	told map[string]int
}

func newPair(limit int64, told map[string]int) *pair {
	b := budget.New(limit)
	return &pair{New(b), b, &model{limit: limit}, told}
}

// call is one call of a cache, or a change of what other kinds hold.
type call struct {
	name string
	key  Key
	data string
	n    int64
}

// do: what the cache tells of a call, and what the model does.
func (p *pair) do(x call) (got, want string) {
	switch x.name {
	case "Put":
		return fmt.Sprint(int(p.c.Put(x.key, x.data))), fmt.Sprint(int(p.m.put(x.key, x.data)))
	case "Get":
		s, ok := p.c.Get(x.key)
		t, is := p.m.get(x.key)
		return fmt.Sprint(ok, len(s), s), fmt.Sprint(is, len(t), t)
	case "Pin":
		return fmt.Sprint(p.c.Pin(x.key)), fmt.Sprint(p.m.pin(x.key))
	case "Unpin":
		return fmt.Sprint(p.c.Unpin(x.key)), fmt.Sprint(p.m.unpin(x.key))
	case "Drop":
		p.c.Drop(x.key.File)
		p.m.drop(x.key.File)
	case "Shrink":
		return fmt.Sprint(p.c.Shrink(x.n)), fmt.Sprint(p.m.shrink(x.n))
	case "Others":
		p.m.others = min(max(x.n, 0), p.m.others+p.m.left())
		return fmt.Sprint(int(p.b.Change(budget.Engine, p.m.others))), "0"
	}
	return "", ""
}

// same: a call is told the same by both, and leaves the same.
func (p *pair) same(x call) string {
	got, want := p.do(x)
	p.told[x.name+" "+strings.Fields(got + " .")[0]]++
	if got != want {
		return fmt.Sprintf("%+v is %q, not %q", x, got, want)
	}
	keys := p.c.Kept()
	ok := len(keys) == len(p.m.kept)
	for i := 0; ok && i < len(keys); i++ {
		ok = keys[i] == p.m.kept[i].key
	}
	if !ok {
		return fmt.Sprintf("behind %+v kept are %v, not %v", x, keys, p.m.kept)
	}
	if p.b.Of(budget.Cache) != p.m.charged() || p.b.Left() != p.m.left() {
		return fmt.Sprintf("behind %+v charged are %d, not %d, and left %d, not %d", x, p.b.Of(budget.Cache), p.m.charged(), p.b.Left(), p.m.left())
	}
	return ""
}

// anyCall: a call whose numbers stand often at the edge between enough and too few.
func anyCall(r *rand.Rand, m *model) call {
	names := []string{"Put", "Put", "Put", "Put", "Get", "Get", "Get", "Pin", "Pin", "Unpin", "Unpin", "Unpin", "Shrink", "Others", "Drop"}
	x := call{name: names[r.Intn(len(names))], key: Key{int64(r.Intn(4)), r.Intn(4)}}
	if x.name == "Drop" && r.Intn(3) > 0 {
		x.key.File = 5
	}
	loose := int64(0)
	for _, b := range slices.Backward(m.kept) {
		if b.pins == 0 {
			loose += 64 + int64(len(b.data))
			if r.Intn(3) == 0 {
				break
			}
		}
	}
	edge := m.left() + loose + int64(r.Intn(3)) - 1
	x.data = strings.Repeat(string(rune('a'+r.Intn(26))), r.Intn(100))
	if r.Intn(3) == 0 && edge >= 64 && edge < 1<<12 {
		x.data = strings.Repeat("e", int(edge-64))
	}
	x.n = []int64{edge, edge, edge, int64(r.Intn(300)), -int64(r.Intn(5)), math.MinInt64, math.MaxInt64, m.limit, m.limit + 1}[r.Intn(9)]
	return x
}

func TestModel(t *testing.T) {
	r := rand.New(rand.NewSource(1))
	told := map[string]int{}
	for range 600 {
		p := newPair([]int64{0, 63, 64, 140, 300, 700, 1500, 4000, 1 << 20}[r.Intn(9)], told)
		for range 300 {
			if bad := p.same(anyCall(r, p.m)); bad != "" {
				t.Fatalf("with a budget of %d: %s", p.m.limit, bad)
			}
		}
	}
	for _, what := range []string{"Put 0", "Put 11", "Put 14", "Get true", "Get false", "Pin true", "Pin false", "Unpin true", "Unpin false", "Shrink true", "Shrink false", "Others 0", "Drop ."} {
		if told[what] < 1000 {
			t.Errorf("%s was told %d times: too few to tell anything", what, told[what])
		}
	}
}

// TestAllRows: each row of a few calls, of some that hold all that there is to tell apart.
func TestAllRows(t *testing.T) {
	calls := []call{
		{name: "Put", key: a}, {name: "Put", key: b, data: "ten bytes."}, {name: "Put", key: c, data: strings.Repeat("c", 80)},
		{name: "Get", key: a}, {name: "Pin", key: a}, {name: "Unpin", key: a}, {name: "Pin", key: b}, {name: "Drop", key: a}, {name: "Shrink", n: 100}, {name: "Others", n: 30},
	}
	told := map[string]int{}
	const length = 5
	rows := 1
	for range length {
		rows *= len(calls)
	}
	for row := range rows {
		p := newPair(212, told)
		for at, left := 0, row; at < length; at, left = at+1, left/len(calls) {
			if bad := p.same(calls[left%len(calls)]); bad != "" {
				t.Fatalf("row %d, call %d: %s", row, at, bad)
			}
		}
	}
}
