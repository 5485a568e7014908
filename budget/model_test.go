package budget

import (
	"fmt"
	"math"
	"math/rand"
	"sync"
	"sync/atomic"
	"testing"

	"oxbow/api"
)

// model is the document's words, said once more and apart from the program: only what each kind holds is written down, and Used behind each call.
type model struct {
	limit int64
	of    [4]int64
	uses  []int64
}

func (m *model) used() int64 { return m.of[0] + m.of[1] + m.of[2] + m.of[3] }

func (m *model) high() int64 {
	h := int64(0)
	for _, n := range m.uses {
		h = max(h, n)
	}
	return h
}

func (m *model) state() state { return state{m.used(), m.high(), m.limit - m.used(), m.of} }

func (m *model) call(name string, k Kind, n int64) api.Errno {
	if k < 0 || k > 3 || n < 0 {
		return api.ErrArg
	}
	switch name {
	case "Reserve":
		if n > m.limit-m.used() {
			return api.ErrBudget
		}
		m.of[k] += n
	case "Release":
		if n > m.of[k] {
			return api.ErrArg
		}
		m.of[k] -= n
	case "Change":
		if n > m.limit-(m.used()-m.of[k]) {
			return api.ErrBudget
		}
		m.of[k] = n
	}
	m.uses = append(m.uses, m.used())
	return api.OK
}

// number: one near something that matters, or any.
func number(r *rand.Rand, m *model) int64 {
	near := []int64{0, 1, m.limit, m.limit - m.used(), m.used(), m.of[r.Intn(4)], m.high(), m.limit / 7, math.MaxInt64, math.MinInt64, r.Int63()}
	n := near[r.Intn(len(near))]
	switch r.Intn(4) {
	case 0:
		return n + int64(r.Intn(5)) - 2 // wraps round at the greatest and the least: any number will do
	case 1:
		return n / int64(1+r.Intn(4))
	}
	return n
}

func TestModel(t *testing.T) {
	r := rand.New(rand.NewSource(1))
	told := map[api.Errno]int{}
	for _, limit := range []int64{-5, 0, 1, 3, 10, 1000, 1 << 33, api.MaxBudget, math.MaxInt64} {
		for range 20 {
			b, m := New(limit), &model{limit: min(max(limit, 0), 1099511627776)}
			for range 150 {
				name := []string{"Reserve", "Release", "Change"}[r.Intn(3)]
				k, n := Kind(r.Intn(4)), number(r, m)
				if r.Intn(20) == 0 {
					k = others[r.Intn(len(others))]
				}
				what := fmt.Sprintf("limit %d, %+v: %s(%d, %d)", limit, m.state(), name, k, n)
				e, want := calls(b)[name](k, n), m.call(name, k, n)
				if e != want {
					t.Fatalf("P5.2: %s is %d, not %d", what, e, want)
				}
				told[e]++
				wantState(t, what, b, m.state())
				if t.Failed() {
					return
				}
			}
		}
	}
	for _, e := range []api.Errno{api.OK, api.ErrArg, api.ErrBudget} {
		if told[e] < 1000 {
			t.Errorf("%d was told %d times: too few to tell anything", e, told[e])
		}
	}
}

// watch: a budget is asked again and again till it is told to end: 0 <= Used <= High <= limit at all times.
func watch(t *testing.T, b *Budget, limit int64, end *atomic.Bool) {
	for last := int64(0); !end.Load(); {
		used := b.Used()
		high := b.High()
		left := b.Left()
		if used < 0 || used > high || high < last || high > limit || left < 0 || left > limit {
			t.Errorf("P5.3: Used %d, High %d behind %d, Left %d", used, high, last, left)
			return
		}
		last = high
	}
}

// together: all the works at once, so many times each, while somebody watches.
func together(t *testing.T, b *Budget, limit int64, times int, works ...func(time int)) {
	var workers, watcher sync.WaitGroup
	var end atomic.Bool
	watcher.Go(func() { watch(t, b, limit, &end) })
	for _, work := range works {
		workers.Go(func() {
			for i := range times {
				work(i)
			}
		})
	}
	workers.Wait()
	end.Store(true)
	watcher.Wait()
}

// TestTogether: the counts are atomics, so that calls that go on at once are as some row of them: none is lost, and no more is held than may be.
func TestTogether(t *testing.T) {
	const workers, times, limit = 8, 2000, 9999
	b := New(limit)
	var given atomic.Int64
	var works []func(int)
	for w := range workers {
		works = append(works, func(i int) {
			switch e := b.Reserve(kinds[(w+i)%4], 1); e {
			case api.OK:
				given.Add(1)
			case api.ErrBudget:
			default:
				t.Errorf("P5.2: Reserve is %d", e)
			}
		})
	}
	together(t, b, limit, times, works...)
	s := stateOf(b)
	if given.Load() != limit || s.used != limit || s.high != limit || s.left != 0 || s.of[0]+s.of[1]+s.of[2]+s.of[3] != limit {
		t.Errorf("P5.3: %d were given, and the budget is %+v", given.Load(), s)
	}
	var taken atomic.Int64
	works = works[:0]
	for range workers {
		works = append(works, func(i int) {
			if b.Release(kinds[i%4], 1) == api.OK {
				taken.Add(1)
			}
		})
	}
	together(t, b, limit, limit, works...)
	if s := stateOf(b); taken.Load() != limit || s != (state{0, limit, limit, [4]int64{}}) {
		t.Errorf("P5.3: %d were taken, and the budget is %+v", taken.Load(), s)
	}
}

// TestChangeTogether: what one kind holds is changed from several sides at once, up to the limit: that is never too much.
func TestChangeTogether(t *testing.T) {
	const workers, times, limit = 8, 2000, 100
	b := New(limit)
	wantOK(t, b.Reserve(Table, 40))
	var works []func(int)
	for w := range workers {
		works = append(works, func(i int) {
			if e := b.Change(Scan, int64((w*i)%61)); e != api.OK {
				t.Errorf("P5.2: Change is %d", e)
			}
		})
	}
	together(t, b, limit, times, works...)
	wantOK(t, b.Change(Scan, 60))
	wantState(t, "P5.3", b, state{100, 100, 0, [4]int64{40, 0, 60, 0}})
}
