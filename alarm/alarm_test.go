package alarm_test

import (
	"math"
	"math/rand"
	"slices"
	"testing"

	"limelight/alarm"
)

const (
	top     = math.MaxInt64
	bottom  = math.MinInt64
	lastKey = math.MaxUint64
)

// told is a table by the chapter's words: a plain list, in the order in which the keys came.
type told struct {
	list []alarm.Due
}

func (m *told) find(key uint64) int {
	for i, d := range m.list {
		if d.Key == key {
			return i
		}
	}
	return -1
}

func (m *told) set(key uint64, at int64) {
	m.clear(key)
	m.list = append(m.list, alarm.Due{At: at, Key: key})
}

func (m *told) clear(key uint64) bool {
	i := m.find(key)
	if i < 0 {
		return false
	}
	m.list = slices.Delete(m.list, i, i+1)
	return true
}

func (m *told) at(key uint64) (int64, bool) {
	if i := m.find(key); i >= 0 {
		return m.list[i].At, true
	}
	return 0, false
}

func (m *told) next() (alarm.Due, bool) {
	if len(m.list) == 0 {
		return alarm.Due{}, false
	}
	first := m.list[0]
	for _, d := range m.list {
		if before(d, first) {
			first = d
		}
	}
	return first, true
}

func (m *told) due(now int64) []alarm.Due {
	var l []alarm.Due
	for {
		d, ok := m.next()
		if !ok || d.At > now {
			return l
		}
		m.clear(d.Key)
		l = append(l, d)
	}
}

func before(a, b alarm.Due) bool {
	return a.At < b.At || a.At == b.At && a.Key < b.Key
}

// Kinds of calls.
const (
	set = iota
	drop
	due
)

// call is one that works on a table; n is the time, of due the one that is now.
type call struct {
	kind int
	key  uint64
	n    int64
}

// both are a table and what must be told of it; calls are those that it has had.
type both struct {
	x     *alarm.Table
	m     *told
	calls []call
}

func pair(t *testing.T, l ...call) *both {
	t.Helper()
	p := &both{x: alarm.New(), m: &told{}}
	p.hold(t)
	for _, c := range l {
		p.do(t, c)
	}
	return p
}

func (p *both) fail(t *testing.T, what string, got, want any) {
	t.Helper()
	t.Fatalf("P12.1: %v: %s %v, want %v", p.calls, what, got, want)
}

// do makes a call, holds its answer against the chapter's words, and answers what is due and whether it was true.
func (p *both) do(t *testing.T, c call) ([]alarm.Due, bool) {
	t.Helper()
	p.calls = append(p.calls, c)
	var l []alarm.Due
	ok := false
	switch c.kind {
	case set:
		p.x.Set(c.key, c.n)
		p.m.set(c.key, c.n)
	case drop:
		ok = p.x.Clear(c.key)
		if want := p.m.clear(c.key); ok != want {
			p.fail(t, "Clear", ok, want)
		}
	case due:
		l = p.x.Due(c.n)
		if want := p.m.due(c.n); !slices.Equal(l, want) {
			p.fail(t, "Due", l, want)
		}
	}
	p.holdKey(t, c.key)
	p.hold(t)
	return l, ok
}

// hold holds what the table tells against the chapter's words.
func (p *both) hold(t *testing.T) {
	t.Helper()
	if got, want := p.x.Len(), len(p.m.list); got != want {
		p.fail(t, "Len", got, want)
	}
	first, there := p.m.next()
	for range 2 { // the second finds what the first has left
		if got, ok := p.x.Next(); got != first || ok != there {
			p.fail(t, "Next", []any{got, ok}, []any{first, there})
		}
	}
	for _, d := range p.m.list {
		p.holdKey(t, d.Key)
	}
}

func (p *both) holdKey(t *testing.T, key uint64) {
	t.Helper()
	want, there := p.m.at(key)
	if got, ok := p.x.At(key); got != want || ok != there {
		p.fail(t, "At", []any{key, got, ok}, []any{key, want, there})
	}
}

// drain takes out all that is there and holds that it is just that.
func (p *both) drain(t *testing.T) {
	t.Helper()
	n := p.x.Len()
	if l, _ := p.do(t, call{due, 0, top}); len(l) != n || p.x.Len() != 0 {
		p.fail(t, "Due of the last time", len(l), n)
	}
}

// keys are those about which something may change.
func keys() []uint64 {
	return []uint64{0, 1, 2, 77, 1<<31 - 1, 1 << 31, 1<<32 - 1, 1 << 32, 1<<53 + 1, 1<<63 - 1, 1 << 63, 1<<63 + 1, lastKey - 1, lastKey}
}

// times are those about which something may change.
func times() []int64 {
	return []int64{bottom, bottom + 1, -1 << 62, -1 << 32, -1<<31 - 1, -2, -1, 0, 1, 2, 5, 1<<31 - 1, 1 << 32, 1<<53 + 1, 1 << 62, top - 1, top}
}

// entries answers one of each of the keys at each of the times in turn, a key that is not among keys where they are used up.
func entries(l []int64) []alarm.Due {
	var all []alarm.Due
	for i, at := range l {
		key := uint64(1000 + i)
		if i < len(keys()) {
			key = keys()[i]
		}
		all = append(all, alarm.Due{At: at, Key: key})
	}
	return all
}

func table(l []alarm.Due) *alarm.Table {
	x := alarm.New()
	for _, d := range l {
		x.Set(d.Key, d.At)
	}
	return x
}

// orders answers all orders of a list.
func orders(l []alarm.Due) [][]alarm.Due {
	if len(l) == 0 {
		return [][]alarm.Due{nil}
	}
	var all [][]alarm.Due
	for i := range l {
		rest := slices.Delete(slices.Clone(l), i, i+1)
		for _, o := range orders(rest) {
			all = append(all, append(o, l[i]))
		}
	}
	return all
}

func TestRuns(t *testing.T) {
	x := alarm.New()
	if d, ok := x.Next(); ok || d != (alarm.Due{}) {
		t.Errorf("P12.1: Next of none: %v, %v", d, ok) // the chapter's examples
	}
	if x.Clear(1) {
		t.Error("P12.1: Clear of none: true")
	}
	x.Set(1, 5)
	x.Set(1, 7)
	if l := x.Due(6); len(l) != 0 || x.Len() != 1 {
		t.Errorf("P12.1: Set(1, 5), Set(1, 7): Due(6): %v, Len %d", l, x.Len()) // its run
	}
	if l := x.Due(7); !slices.Equal(l, []alarm.Due{{At: 7, Key: 1}}) || x.Len() != 0 {
		t.Errorf("P12.1: Set(1, 5), Set(1, 7): Due(7): %v, Len %d", l, x.Len())
	}
}

func TestNew(t *testing.T) {
	x := alarm.New()
	if x == nil || alarm.New() == x {
		t.Fatal("P12.1: New: none, or one that was")
	}
	for range 2 { // none of the calls leaves anything
		if x.Len() != 0 {
			t.Errorf("P12.1: New: Len %d", x.Len())
		}
		if d, ok := x.Next(); ok || d != (alarm.Due{}) {
			t.Errorf("P12.1: New: Next %v, %v", d, ok)
		}
		for _, key := range keys() {
			if at, ok := x.At(key); at != 0 || ok {
				t.Errorf("P12.1: New: At(%d): %d, %v", key, at, ok)
			}
			if x.Clear(key) || x.Clear(key) {
				t.Errorf("P12.1: New: Clear(%d): true", key)
			}
		}
		for _, now := range times() {
			if l := x.Due(now); len(l) != 0 {
				t.Errorf("P12.1: New: Due(%d): %v", now, l)
			}
		}
	}
}

func TestSet(t *testing.T) {
	for _, key := range keys() {
		for _, at := range times() {
			x := alarm.New()
			x.Set(key, at)
			if got, ok := x.At(key); got != at || !ok {
				t.Errorf("P12.1: Set(%d, %d): At %d, %v", key, at, got, ok)
			}
			if d, ok := x.Next(); d != (alarm.Due{At: at, Key: key}) || !ok || x.Len() != 1 {
				t.Errorf("P12.1: Set(%d, %d): Next %v, %v, Len %d", key, at, d, ok, x.Len())
			}
			for _, other := range keys() {
				if got, ok := x.At(other); other != key && (got != 0 || ok) {
					t.Errorf("P12.1: Set(%d, %d): At(%d): %d, %v", key, at, other, got, ok)
				}
			}
		}
	}
}

// TestSetAgain sets an earlier, a later and the same time where there is one, another key beside it.
func TestSetAgain(t *testing.T) {
	for _, key := range keys() {
		for _, first := range times() {
			for _, second := range times() {
				p := pair(t, call{set, 40, 3}, call{set, key, first}, call{set, key, second})
				if at, ok := p.x.At(key); at != second || !ok || p.x.Len() != 2 {
					t.Errorf("P12.1: Set(%d, %d), Set(%d, %d): At %d, %v, Len %d", key, first, key, second, at, ok, p.x.Len())
				}
				if second > bottom {
					l, _ := p.do(t, call{due, 0, second - 1})
					if slices.ContainsFunc(l, func(d alarm.Due) bool { return d.Key == key }) {
						t.Errorf("P12.1: Set(%d, %d), Set(%d, %d): Due(%d): %v", key, first, key, second, second-1, l)
					}
				}
				l, _ := p.do(t, call{due, 0, second})
				if !slices.Contains(l, alarm.Due{At: second, Key: key}) {
					t.Errorf("P12.1: Set(%d, %d), Set(%d, %d): Due(%d): %v", key, first, key, second, second, l)
				}
				p.drain(t)
			}
		}
	}
}

// TestSetBack sets a time that the key had before, by way of each other one: it is due once.
func TestSetBack(t *testing.T) {
	for _, first := range times() {
		for _, second := range times() {
			p := pair(t, call{set, 1, first}, call{set, 1, second}, call{set, 1, first})
			if l, _ := p.do(t, call{due, 0, first}); !slices.Equal(l, []alarm.Due{{At: first, Key: 1}}) {
				t.Errorf("P12.1: Set(1, %d), Set(1, %d), Set(1, %d): Due(%d): %v", first, second, first, first, l)
			}
			if l, _ := p.do(t, call{due, 0, top}); len(l) != 0 {
				t.Errorf("P12.1: Set(1, %d), Set(1, %d), Set(1, %d), Due(%d): Due of the last time: %v", first, second, first, first, l)
			}
		}
	}
}

// TestSetAfterItIsOut sets a time for a key that was cleared, or that was due.
func TestSetAfterItIsOut(t *testing.T) {
	for _, way := range []call{{drop, 7, 0}, {due, 0, top}} {
		for _, first := range times() {
			for _, second := range times() {
				p := pair(t, call{set, 7, first}, way, call{set, 7, second})
				if at, ok := p.x.At(7); at != second || !ok || p.x.Len() != 1 {
					t.Errorf("P12.1: %v: At %d, %v, Len %d", p.calls, at, ok, p.x.Len())
				}
				if l, _ := p.do(t, call{due, 0, top}); !slices.Equal(l, []alarm.Due{{At: second, Key: 7}}) {
					t.Errorf("P12.1: %v: %v", p.calls, l)
				}
			}
		}
	}
}

func TestClear(t *testing.T) {
	for _, key := range keys() {
		for _, at := range times() {
			p := pair(t, call{set, 40, 3}, call{set, key, at})
			if _, ok := p.do(t, call{drop, key, 0}); !ok {
				t.Errorf("P12.1: Set(%d, %d): Clear: false", key, at)
			}
			if got, ok := p.x.At(key); got != 0 || ok || p.x.Len() != 1 {
				t.Errorf("P12.1: Set(%d, %d), Clear: At %d, %v, Len %d", key, at, got, ok, p.x.Len())
			}
			if _, ok := p.do(t, call{drop, key, 0}); ok || p.x.Len() != 1 {
				t.Errorf("P12.1: Set(%d, %d), Clear twice: true, or Len %d", key, at, p.x.Len())
			}
			if l, _ := p.do(t, call{due, 0, top}); !slices.Equal(l, []alarm.Due{{At: 3, Key: 40}}) {
				t.Errorf("P12.1: Set(%d, %d), Clear: Due %v", key, at, l)
			}
			if _, ok := p.do(t, call{drop, key, 0}); ok {
				t.Errorf("P12.1: Set(%d, %d), Clear, Due: Clear: true", key, at)
			}
		}
	}
}

// TestClearTakesAllTimes clears a key that was set more than once: none of its times is left.
func TestClearTakesAllTimes(t *testing.T) {
	for _, first := range times() {
		for _, second := range times() {
			p := pair(t, call{set, 7, first}, call{set, 7, second}, call{drop, 7, 0})
			if l, _ := p.do(t, call{due, 0, top}); len(l) != 0 {
				t.Errorf("P12.1: Set(7, %d), Set(7, %d), Clear: Due %v", first, second, l)
			}
		}
	}
}

// TestClearOfEach clears each of a table in turn: the others stay.
func TestClearOfEach(t *testing.T) {
	all := entries(times())
	for i, gone := range all {
		x := table(all)
		if !x.Clear(gone.Key) || x.Clear(gone.Key) || x.Len() != len(all)-1 {
			t.Errorf("P12.1: Clear of %v: Len %d", gone, x.Len())
		}
		want := slices.Delete(slices.Clone(all), i, i+1)
		if d, ok := x.Next(); d != want[0] || !ok {
			t.Errorf("P12.1: Clear of %v: Next %v, %v", gone, d, ok)
		}
		if l := x.Due(top); !slices.Equal(l, want) {
			t.Errorf("P12.1: Clear of %v: Due %v, want %v", gone, l, want)
		}
	}
}

// TestAt asks each of a table, twice, as it takes nothing out, and keys that have no time.
func TestAt(t *testing.T) {
	all := entries(times())
	x := table(all)
	for range 2 {
		for _, d := range all {
			if at, ok := x.At(d.Key); at != d.At || !ok || x.Len() != len(all) {
				t.Errorf("P12.1: At(%d): %d, %v, want %d; Len %d", d.Key, at, ok, d.At, x.Len())
			}
		}
		for _, key := range []uint64{3, 78, 1<<32 + 1, 1<<63 + 2, lastKey - 2} {
			if at, ok := x.At(key); at != 0 || ok || x.Len() != len(all) {
				t.Errorf("P12.1: At(%d), which has none: %d, %v; Len %d", key, at, ok, x.Len())
			}
		}
	}
	if l := x.Due(top); !slices.Equal(l, all) {
		t.Errorf("P12.1: At, Due: %v", l)
	}
}

// TestAtZero tells a key whose time is 0 from one that has none.
func TestAtZero(t *testing.T) {
	for _, key := range keys() {
		x := alarm.New()
		x.Set(key, 0)
		if at, ok := x.At(key); at != 0 || !ok {
			t.Errorf("P12.1: Set(%d, 0): At %d, %v", key, at, ok)
		}
		if d, ok := x.Next(); d != (alarm.Due{Key: key}) || !ok || x.Len() != 1 {
			t.Errorf("P12.1: Set(%d, 0): Next %v, %v", key, d, ok)
		}
		if l := x.Due(-1); len(l) != 0 {
			t.Errorf("P12.1: Set(%d, 0): Due(-1): %v", key, l)
		}
		if l := x.Due(0); !slices.Equal(l, []alarm.Due{{Key: key}}) {
			t.Errorf("P12.1: Set(%d, 0): Due(0): %v", key, l)
		}
		if at, ok := x.At(key); at != 0 || ok {
			t.Errorf("P12.1: Set(%d, 0), Due(0): At %d, %v", key, at, ok)
		}
	}
}

// TestDueOfOne asks at each time for a deadline of each time.
func TestDueOfOne(t *testing.T) {
	for _, key := range keys() {
		for _, at := range times() {
			for _, now := range times() {
				x := alarm.New()
				x.Set(key, at)
				l := x.Due(now)
				_, there := x.At(key)
				if at <= now && (!slices.Equal(l, []alarm.Due{{At: at, Key: key}}) || there || x.Len() != 0) {
					t.Errorf("P12.1: Set(%d, %d): Due(%d): %v, Len %d", key, at, now, l, x.Len())
				}
				if at > now && (len(l) != 0 || !there || x.Len() != 1) {
					t.Errorf("P12.1: Set(%d, %d): Due(%d): %v, Len %d", key, at, now, l, x.Len())
				}
				if again := x.Due(now); len(again) != 0 {
					t.Errorf("P12.1: Set(%d, %d), Due(%d): again: %v", key, at, now, again)
				}
				if x.Clear(key) != there {
					t.Errorf("P12.1: Set(%d, %d), Due(%d): Clear %v", key, at, now, !there)
				}
			}
		}
	}
}

// TestDueAroundADeadline asks just ahead of each, at it, and behind it, where others are earlier and later.
func TestDueAroundADeadline(t *testing.T) {
	for _, at := range times() {
		for _, step := range []int64{-1, 0, 1} {
			if at == bottom && step < 0 || at == top && step > 0 {
				continue
			}
			now := at + step
			p := pair(t)
			for _, d := range entries(times()) {
				p.do(t, call{set, d.Key, d.At})
			}
			var want []alarm.Due
			for _, d := range entries(times()) {
				if d.At <= now {
					want = append(want, d)
				}
			}
			if l, _ := p.do(t, call{due, 0, now}); !slices.Equal(l, want) {
				t.Errorf("P12.1: Due(%d): %v, want %v", now, l, want)
			}
			if l, _ := p.do(t, call{due, 0, now}); len(l) != 0 {
				t.Errorf("P12.1: Due(%d) twice: %v", now, l)
			}
			if l, _ := p.do(t, call{due, 0, bottom}); len(l) != 0 {
				t.Errorf("P12.1: Due(%d), Due of the least time: %v", now, l)
			}
			p.drain(t)
		}
	}
}

// TestDueOfOneTime has several keys of one time: they are told by Key, as numbers without a sign, in whatever order they were set.
func TestDueOfOneTime(t *testing.T) {
	some := []uint64{0, 1, 1<<63 - 1, 1 << 63, lastKey}
	for _, at := range times() {
		var all []alarm.Due
		for _, key := range some {
			all = append(all, alarm.Due{At: at, Key: key})
		}
		for _, o := range orders(all) {
			x := table(o)
			if d, ok := x.Next(); d != all[0] || !ok {
				t.Errorf("P12.1: %v: Next %v, %v", o, d, ok)
			}
			if l := x.Due(at); !slices.Equal(l, all) || x.Len() != 0 {
				t.Errorf("P12.1: %v: Due %v, Len %d", o, l, x.Len())
			}
		}
	}
}

// TestDueOfSeveralTimes holds that the time goes ahead of the key, however far apart the times are.
func TestDueOfSeveralTimes(t *testing.T) {
	for _, all := range [][]alarm.Due{
		{{At: bottom, Key: lastKey}, {At: -1, Key: 1 << 63}, {At: 0, Key: 7}, {At: 1, Key: 1}, {At: top, Key: 0}},
		{{At: bottom, Key: 0}, {At: -1, Key: 1}, {At: 0, Key: 7}, {At: 1, Key: 1 << 63}, {At: top, Key: lastKey}},
		{{At: bottom, Key: 3}, {At: bottom, Key: 4}, {At: 0, Key: 0}, {At: top, Key: 1}, {At: top, Key: 2}},
		{{At: -2, Key: 5}, {At: -1, Key: 4}, {At: -1, Key: lastKey}, {At: 0, Key: 0}, {At: 0, Key: 3}},
		{{At: 1 << 32, Key: 9}, {At: 1<<32 + 1, Key: 0}, {At: 1<<32 + 1, Key: 1 << 32}, {At: 1 << 53, Key: 1}, {At: 1<<53 + 1, Key: 2}},
		{{At: top - 2, Key: 9}, {At: top - 1, Key: 8}, {At: top - 1, Key: 1<<53 + 1}, {At: top, Key: 1 << 53}, {At: top, Key: 1<<53 + 2}},
	} {
		for _, o := range orders(all) {
			for n := range len(all) + 1 {
				x := table(o)
				want := all[:0]
				now := int64(bottom)
				if n > 0 {
					now = all[n-1].At
				}
				for len(want) < len(all) && all[len(want)].At <= now {
					want = all[:len(want)+1]
				}
				if l := x.Due(now); !slices.Equal(l, want) {
					t.Errorf("P12.1: %v: Due(%d): %v, want %v", o, now, l, want)
				}
				d, ok := x.Next()
				if left := all[len(want):]; ok != (len(left) > 0) || ok && d != left[0] || !ok && d != (alarm.Due{}) {
					t.Errorf("P12.1: %v, Due(%d): Next %v, %v", o, now, d, ok)
				}
				if l := x.Due(top); !slices.Equal(l, all[len(want):]) {
					t.Errorf("P12.1: %v, Due(%d): the rest %v", o, now, l)
				}
			}
		}
	}
}

// TestNext asks often, as it takes nothing out, and goes on with the one behind as the first one goes.
func TestNext(t *testing.T) {
	all := entries(times())
	all = append(all, alarm.Due{At: top, Key: 1 << 40}, alarm.Due{At: 0, Key: 5}, alarm.Due{At: bottom, Key: 6})
	for _, way := range []int{drop, due} {
		p := pair(t)
		for _, d := range all {
			p.do(t, call{set, d.Key, d.At})
		}
		var seen []alarm.Due
		for p.x.Len() > 0 {
			d, ok := p.x.Next()
			for range 3 {
				if again, found := p.x.Next(); again != d || !found || !ok {
					t.Fatalf("P12.1: Next twice: %v, %v", d, again)
				}
			}
			if len(seen) > 0 && !before(seen[len(seen)-1], d) {
				t.Fatalf("P12.1: Next: %v behind %v", d, seen[len(seen)-1])
			}
			if way == drop {
				p.do(t, call{drop, d.Key, 0})
				seen = append(seen, d)
				continue
			}
			l, _ := p.do(t, call{due, 0, d.At})
			if len(l) == 0 || l[0] != d {
				t.Fatalf("P12.1: Next %v; Due(%d): %v", d, d.At, l)
			}
			seen = append(seen, l...)
		}
		if len(seen) != len(all) {
			t.Errorf("P12.1: Next tells %d of %d", len(seen), len(all))
		}
	}
}

// TestNextAsTimesMove sets the first one's time behind all others, and the last one's ahead of them.
func TestNextAsTimesMove(t *testing.T) {
	x := table([]alarm.Due{{At: 3, Key: 1}, {At: 3, Key: 2}, {At: 5, Key: 0}})
	for _, c := range []struct {
		key  uint64
		at   int64
		want alarm.Due
	}{
		{1, 6, alarm.Due{At: 3, Key: 2}}, {2, 6, alarm.Due{At: 5, Key: 0}}, {0, 6, alarm.Due{At: 6, Key: 0}}, {0, 7, alarm.Due{At: 6, Key: 1}},
		{2, 5, alarm.Due{At: 5, Key: 2}}, {0, bottom, alarm.Due{At: bottom, Key: 0}}, {0, top, alarm.Due{At: 5, Key: 2}}, {1, top, alarm.Due{At: 5, Key: 2}}, {2, top, alarm.Due{At: top, Key: 0}},
	} {
		x.Set(c.key, c.at)
		if d, ok := x.Next(); d != c.want || !ok || x.Len() != 3 {
			t.Errorf("P12.1: Set(%d, %d): Next %v, %v, want %v", c.key, c.at, d, ok, c.want)
		}
	}
}

func TestLen(t *testing.T) {
	p := pair(t)
	for i, key := range keys() {
		p.do(t, call{set, key, 3})
		p.do(t, call{set, key, int64(i)})
		if p.x.Len() != i+1 {
			t.Errorf("P12.1: %d keys: Len %d", i+1, p.x.Len())
		}
	}
	n := len(keys())
	for i, key := range keys()[:5] {
		p.do(t, call{drop, key, 0})
		p.do(t, call{drop, key, 0})
		if p.x.Len() != n-i-1 {
			t.Errorf("P12.1: %d keys, %d cleared: Len %d", n, i+1, p.x.Len())
		}
	}
	for now := int64(5); now < int64(n); now++ {
		p.do(t, call{due, 0, now})
		if want := n - int(now) - 1; p.x.Len() != want {
			t.Errorf("P12.1: Due(%d): Len %d, want %d", now, p.x.Len(), want)
		}
	}
}

// TestMany has more keys than a short way of sorting takes, few and many of one time.
func TestMany(t *testing.T) {
	r := rand.New(rand.NewSource(5))
	for _, n := range []int{11, 12, 13, 33, 50, 51, 1000, 20000} {
		for _, span := range []int64{1, 2, 40, 1 << 20, top} {
			var all []alarm.Due
			for i := range n {
				all = append(all, alarm.Due{At: r.Int63n(span) - span/2, Key: uint64(i) * 0x9e3779b97f4a7c15})
			}
			x := table(all)
			want := slices.Clone(all)
			slices.SortFunc(want, func(a, b alarm.Due) int {
				if before(a, b) {
					return -1
				}
				return 1
			})
			if d, ok := x.Next(); d != want[0] || !ok || x.Len() != n {
				t.Errorf("P12.1: %d keys: Next %v, %v, Len %d", n, d, ok, x.Len())
			}
			half := want[n/2].At
			cut := n / 2
			for cut < n && want[cut].At == half {
				cut++
			}
			if l := x.Due(half); !slices.Equal(l, want[:cut]) || x.Len() != n-cut {
				t.Errorf("P12.1: %d keys: Due(%d): %d, want %d, or their order", n, half, len(l), cut)
			}
			if l := x.Due(top); !slices.Equal(l, want[cut:]) || x.Len() != 0 {
				t.Errorf("P12.1: %d keys, Due(%d): the rest %d, want %d, or their order", n, half, len(l), n-cut)
			}
		}
	}
}

// fill writes over all of a list, its spare room too.
func fill(l []alarm.Due) {
	l = l[:cap(l)]
	for i := range l {
		l[i] = alarm.Due{At: -77, Key: 7777}
	}
}

// TestDueMakesAnew writes over what Due answered, its spare room too, and holds the table against one whose answers were left alone.
func TestDueMakesAnew(t *testing.T) {
	for n := range 40 {
		for cut := range n + 1 {
			a, b := alarm.New(), alarm.New()
			for i := range n {
				a.Set(uint64(i), int64(i))
				b.Set(uint64(i), int64(i))
			}
			now := int64(cut) - 1
			x, y := a.Due(now), b.Due(now)
			if !slices.Equal(x, y) || len(x) != cut {
				t.Fatalf("P12.1: %d keys: Due(%d): %v, %v", n, now, x, y)
			}
			fill(x)
			holdAlike(t, a, b)
			a.Set(500, now)
			b.Set(500, now)
			p, q := a.Due(now), b.Due(now)
			fill(x)
			if !slices.Equal(p, q) || len(p) != 1 {
				t.Errorf("R2: two answers of Due share memory: %v, %v", p, q)
			}
			fill(p)
			holdAlike(t, a, b)
			if p, q = a.Due(top), b.Due(top); !slices.Equal(p, q) || len(p) != n-cut {
				t.Errorf("R2: %d keys, Due(%d) written over: the rest %v, want %v", n, now, p, q)
			}
		}
	}
}

// holdAlike holds that two tables tell the same.
func holdAlike(t *testing.T, a, b *alarm.Table) {
	t.Helper()
	first, there := b.Next()
	if d, ok := a.Next(); d != first || ok != there || a.Len() != b.Len() {
		t.Errorf("P12.1: Next %v, %v, want %v, %v; Len %d, want %d", d, ok, first, there, a.Len(), b.Len())
	}
	for key := range uint64(600) {
		want, there := b.At(key)
		if at, ok := a.At(key); at != want || ok != there {
			t.Errorf("P12.1: At(%d): %d, %v, want %d, %v", key, at, ok, want, there)
		}
	}
	if at, ok := a.At(7777); at != 0 || ok {
		t.Errorf("R2: At(7777), written over an answer: %d, %v", at, ok)
	}
}

// TestDueStaysAsAnswered holds that no later call writes over what Due answered, nor behind it.
func TestDueStaysAsAnswered(t *testing.T) {
	x := alarm.New()
	var kept, want [][]alarm.Due
	for i := range int64(60) {
		for k := range i % 17 {
			x.Set(uint64(k*31%17), i+k%5)
		}
		l := x.Due(i)
		if i%2 == 0 {
			fill(l)
		}
		kept = append(kept, l)
		want = append(want, slices.Clone(l[:cap(l)]))
	}
	x.Due(top)
	for i, l := range kept {
		if !slices.Equal(l[:cap(l)], want[i]) {
			t.Errorf("R2: the answer of Due %d is written over: %v, want %v", i, l[:cap(l)], want[i])
		}
	}
}

// TestNoneChangesNothing holds a table that was asked for what it has not against one that was not asked.
func TestNoneChangesNothing(t *testing.T) {
	for n := range uint64(20) {
		a, b := alarm.New(), alarm.New()
		for i := range n {
			a.Set(2*i, int64(i%3))
			b.Set(2*i, int64(i%3))
		}
		for i := range n + 3 {
			if _, ok := a.At(2*i + 1); ok || a.Clear(2*i+1) {
				t.Errorf("P12.1: At, Clear of %d, which has none: true", 2*i+1)
			}
		}
		for _, now := range []int64{bottom, -1} {
			if l := a.Due(now); len(l) != 0 {
				t.Errorf("P12.1: Due(%d): %v", now, l)
			}
		}
		holdAlike(t, a, b)
		if x, y := a.Due(top), b.Due(top); !slices.Equal(x, y) {
			t.Errorf("R3: what has nothing to tell changes what is due: %v, want %v", x, y)
		}
	}
}

// TestSameEachTime holds that a row of calls is answered alike each time, whatever lay between and in whatever order the keys came.
func TestSameEachTime(t *testing.T) {
	all := []alarm.Due{}
	for i := range uint64(100) {
		all = append(all, alarm.Due{At: int64(i % 7), Key: i * 0x9e3779b97f4a7c15})
	}
	row := func(l []alarm.Due) []alarm.Due {
		x := table(l)
		var told []alarm.Due
		for now := range int64(7) {
			d, _ := x.Next()
			told = append(told, d)
			told = append(told, x.Due(now)...)
		}
		return told
	}
	first := row(all)
	r := rand.New(rand.NewSource(6))
	for range 200 {
		r.Shuffle(len(all), func(i, k int) { all[i], all[k] = all[k], all[i] })
		if !slices.Equal(row(all), first) || len(first) != 107 {
			t.Fatal("R4: the same calls answer otherwise")
		}
	}
}

// TestApart works on two at a time: neither tells of the other.
func TestApart(t *testing.T) {
	a, b := pair(t), pair(t)
	for i := range int64(300) {
		a.do(t, call{set, uint64(37 * i % 11), 13 * i % 90})
		b.do(t, call{set, uint64(53 * i % 13), -7 * i % 90})
		b.do(t, call{drop, uint64(i % 13), 0})
		if i%9 == 0 {
			a.do(t, call{due, 0, 17 * i % 70})
			b.do(t, call{due, 0, 11*i%70 - 70})
		}
		a.hold(t)
		b.hold(t)
	}
	a.drain(t)
	b.hold(t)
	b.drain(t)
}

// TestRowsOfSmallNumbers goes through all rows of a few calls.
func TestRowsOfSmallNumbers(t *testing.T) {
	calls := []call{{set, 0, 0}, {set, 0, 1}, {set, lastKey, 0}, {set, lastKey, -1}, {drop, 0, 0}, {drop, lastKey, 0}, {due, 0, -1}, {due, 0, 0}}
	for row := range 1 << 15 {
		p := pair(t)
		for rest := row; rest > 0; rest >>= 3 {
			p.do(t, calls[rest&7])
		}
		p.drain(t)
	}
}

// drawTime answers one of a few that lie near, or an edge now and then.
func drawTime(r *rand.Rand) int64 {
	if r.Intn(6) == 0 {
		return times()[r.Intn(len(times()))]
	}
	return r.Int63n(40) - 10
}

func drawKey(r *rand.Rand, among uint64) uint64 {
	if r.Intn(6) == 0 {
		return keys()[r.Intn(len(keys()))]
	}
	return r.Uint64() % among
}

// ledger is told, of each key, the time that was set last and what became of it.
type ledger struct {
	times               map[uint64]int64
	came, cleared, gone int // how often a key was set that had no time, was cleared, was due
}

// note holds what a call answered against what is noted of each key, and notes it.
func (g *ledger) note(t *testing.T, c call, l []alarm.Due, ok bool) {
	t.Helper()
	at, there := g.times[c.key]
	switch c.kind {
	case set:
		if !there {
			g.came++
		}
		g.times[c.key] = c.n
	case drop:
		if ok != there {
			t.Fatalf("P12.1: Clear(%d): %v; its time was %d", c.key, ok, at)
		}
		if ok {
			g.cleared++
		}
		delete(g.times, c.key)
	case due:
		g.holdDue(t, c.n, l)
	}
}

// holdDue holds that what is due comes in order, each once and with the time that was set last, and that no later one comes and no earlier one stays.
func (g *ledger) holdDue(t *testing.T, now int64, l []alarm.Due) {
	t.Helper()
	for i, d := range l {
		if i > 0 && !before(l[i-1], d) {
			t.Fatalf("P12.1: Due(%d): %v behind %v", now, d, l[i-1])
		}
		if at, there := g.times[d.Key]; !there || at != d.At || d.At > now {
			t.Fatalf("P12.1: Due(%d): %v; set last: %d, %v", now, d, at, there)
		}
		delete(g.times, d.Key)
		g.gone++
	}
	for key, at := range g.times {
		if at <= now {
			t.Fatalf("P12.1: Due(%d): %d at %d stays", now, key, at)
		}
	}
}

// TestRowsOfMixedCalls makes rows of calls over few and many keys: of each key the time that was set last counts, and what is due comes in order, each once, and no later one.
func TestRowsOfMixedCalls(t *testing.T) {
	r := rand.New(rand.NewSource(7))
	for range 300 {
		p, g := pair(t), &ledger{times: map[uint64]int64{}}
		among := uint64(1) << r.Intn(8)
		for range 150 {
			c := call{set, drawKey(r, among), drawTime(r)}
			switch r.Intn(12) {
			case 0, 1:
				c = call{drop, c.key, 0}
			case 2:
				c = call{due, 0, drawTime(r)}
			case 3: // just when the first one is due, or a moment ahead of it
				if d, ok := p.x.Next(); ok && d.At > bottom {
					c = call{due, 0, d.At - int64(r.Intn(2))}
				}
			}
			l, ok := p.do(t, c)
			g.note(t, c, l, ok)
			if p.x.Len() != len(g.times) || g.came != g.cleared+g.gone+p.x.Len() {
				t.Fatalf("P12.1: %d set, %d cleared, %d due, Len %d", g.came, g.cleared, g.gone, p.x.Len())
			}
		}
		p.drain(t)
	}
}
