package meter_test

import (
	"math"
	"math/big"
	"math/rand"
	"testing"

	"limelight/api"
	"limelight/meter"
)

const (
	top     = math.MaxInt64
	bottom  = math.MinInt64
	width   = api.Window // of a slot
	window  = api.Slots * api.Window
	highest = 18446744073710 // of all rates: 2^63 - 1 by 500000, rounded up
)

// told is the chapter's words told anew: what counted, and in which slot, in numbers of any size.
type told struct {
	last int64
	slot []int64
	n    []int64
}

func slot(now int64) int64 {
	if now < 0 {
		return 0
	}
	return now / width
}

func (m *told) add(n int, now int64) {
	if n < 0 {
		return
	}
	m.last = max(m.last, slot(now))
	m.slot = append(m.slot, m.last)
	m.n = append(m.n, int64(n))
}

// held answers the number, 2^63 - 1 at most.
func held(x *big.Int) *big.Int {
	if !x.IsInt64() {
		return big.NewInt(top)
	}
	return x
}

func (m *told) rate(now int64) int64 {
	to := max(m.last, slot(now))
	sum := new(big.Int)
	for i, s := range m.slot {
		if s <= to && s > to-api.Slots {
			sum.Add(sum, big.NewInt(m.n[i]))
		}
	}
	x := held(new(big.Int).Mul(held(sum), big.NewInt(1000000)))
	q, rest := new(big.Int).QuoRem(x, big.NewInt(window), new(big.Int))
	if rest.Sign() > 0 {
		q.Add(q, big.NewInt(1))
	}
	return q.Int64()
}

func (m *told) total() int64 {
	sum := new(big.Int)
	for _, n := range m.n {
		sum.Add(sum, big.NewInt(n))
	}
	return held(sum).Int64()
}

// edges answers the times at which the chapter's words turn.
func edges() []int64 {
	all := []int64{bottom, bottom + 1, -window, -width - 1, -width, -width + 1, -2, -1, top - 1, top}
	for _, k := range []int64{0, 1, 2, 3, 4, 5, 6, 9, 10, 11, 1000003, top/width - 5, top/width - 1, top / width} {
		all = append(all, k*width, k*width+1, k*width+width/2)
		if k > 0 {
			all = append(all, k*width-1)
		}
	}
	return all
}

// step is an Add, a time that is asked behind it, and what Rate and Total are then.
type step struct {
	n           int
	now, at     int64
	rate, total int64
}

const none = -1 // an Add of it is none: the step asks alone

func walk(t *testing.T, name string, all []step) {
	t.Helper()
	m := meter.New()
	for i, c := range all {
		m.Add(c.n, c.now)
		if rate, total := m.Rate(c.at), m.Total(); rate != c.rate || total != c.total {
			t.Fatalf("P16.1: %s, step %d: Add(%d, %d), Rate(%d): %d, Total %d, want %d, %d", name, i, c.n, c.now, c.at, rate, total, c.rate, c.total)
		}
	}
}

func TestNew(t *testing.T) {
	for range 2 {
		m := meter.New()
		for _, at := range edges() {
			if m.Rate(at) != 0 || m.Total() != 0 {
				t.Errorf("P16.1: a new one: Rate(%d): %d, Total %d", at, m.Rate(at), m.Total())
			}
		}
	}
}

func TestExamples(t *testing.T) {
	walk(t, "the chapter's", []step{{none, 0, 0, 0, 0}, {500, 0, 0, 1000, 500}, {none, 0, window, 0, 500}})
}

// TestBelow: an Add of a number below 0 is nothing at all, neither bytes nor a slot.
func TestBelow(t *testing.T) {
	for _, n := range []int{-1, -2, -500, math.MinInt32, math.MinInt + 1, math.MinInt} {
		for _, now := range edges() {
			m := meter.New()
			m.Add(n, now)
			if m.Rate(0) != 0 || m.Rate(now) != 0 || m.Total() != 0 {
				t.Errorf("P16.1: Add(%d, %d) to a new one: %d, %d, %d", n, now, m.Rate(0), m.Rate(now), m.Total())
			}
			m.Add(7, width) // if the slot had turned, this would be as of a later one
			m.Add(n, now)
			m.Add(5, 0)
			if got := m.Rate(0); got != 24 || m.Total() != 12 {
				t.Errorf("P16.1: Add(%d, %d): Rate(0): %d, Total %d, want 24, 12", n, now, got, m.Total())
			}
			if got := m.Rate(width + window - 1); got != 24 {
				t.Errorf("P16.1: Add(%d, %d): Rate(%d): %d, want 24", n, now, width+window-1, got)
			}
			if got := m.Rate(width + window); got != 0 {
				t.Errorf("P16.1: Add(%d, %d): Rate(%d): %d, want 0", n, now, width+window, got)
			}
		}
	}
}

// TestNothing: an Add of 0 bytes makes its slot the last one, and takes away what is too old then.
func TestNothing(t *testing.T) {
	walk(t, "in the last slot", []step{{5, 0, 0, 10, 5}, {0, 0, 0, 10, 5}, {0, width - 1, window - 1, 10, 5}, {none, 0, window, 0, 5}})
	walk(t, "in a later one", []step{{5, 0, 0, 10, 5}, {0, 3 * width, 0, 10, 5}, {7, 0, window - 1, 24, 12}, {none, 0, window, 14, 12}, {none, 0, window + 3*width - 1, 14, 12}, {none, 0, window + 3*width, 0, 12}})
	walk(t, "in the last of the window", []step{{5, 0, 0, 10, 5}, {0, window - 1, 0, 10, 5}, {none, 0, window - 1, 10, 5}, {none, 0, window, 0, 5}})
	walk(t, "behind the window", []step{{5, 0, 0, 10, 5}, {0, window, 0, 0, 5}, {7, 0, window, 14, 12}, {none, 0, 0, 14, 12}})
	walk(t, "far later", []step{{5, 0, 0, 10, 5}, {0, top, 0, 0, 5}, {7, 0, top, 14, 12}, {none, 0, 0, 14, 12}})
	walk(t, "in an earlier one", []step{{5, 3 * width, 0, 10, 5}, {0, 0, 0, 10, 5}, {0, bottom, window + 3*width - 1, 10, 5}, {none, 0, window + 3*width, 0, 5}})
	walk(t, "to a new one", []step{{0, 0, 0, 0, 0}, {0, 9 * width, 0, 0, 0}, {1, 0, 0, 2, 1}, {none, 0, 9*width + window - 1, 2, 1}, {none, 0, 9*width + window, 0, 1}})
}

// TestMicrosecond: the first and the last microsecond of a slot, and of the window of all slots.
func TestMicrosecond(t *testing.T) {
	for _, k := range []int64{0, 1, 2, 4, 5, 6, 7, 99, 1 << 40, top/width - api.Slots - 1} {
		for _, in := range []int64{0, 1, width / 2, width - 2, width - 1} {
			m := meter.New()
			m.Add(3, k*width+in)
			for _, c := range []struct{ at, want int64 }{
				{bottom, 6}, {-1, 6}, {0, 6}, {k*width - 1, 6}, {k * width, 6}, {k*width + width - 1, 6}, {k*width + width, 6},
				{k*width + window - width, 6}, {k*width + window - 1, 6}, {k*width + window, 0}, {k*width + window + width, 0}, {top, 0},
			} {
				if got := m.Rate(c.at); got != c.want {
					t.Errorf("P16.1: Add(3, %d), Rate(%d): %d, want %d", k*width+in, c.at, got, c.want)
				}
			}
		}
	}
	walk(t, "one slot, and the next", []step{
		{1, 0, 0, 2, 1}, {10, width - 1, 0, 22, 11}, {100, width, 0, 222, 111}, {1000, 2*width - 1, 0, 2222, 1111},
		{none, 0, window - 1, 2222, 1111}, {none, 0, window, 2200, 1111}, {none, 0, window + width - 1, 2200, 1111}, {none, 0, window + width, 0, 1111},
	})
}

// TestSlots: each slot's bytes stay for the window from its own begin, and no longer.
func TestSlots(t *testing.T) {
	walk(t, "one by one", []step{
		{1, 0, 0, 2, 1}, {10, width, width, 22, 11}, {100, 2 * width, 2 * width, 222, 111}, {1000, 3 * width, 3 * width, 2222, 1111},
		{10000, 4 * width, 4 * width, 22222, 11111}, {none, 0, 0, 22222, 11111},
		{100000, 5 * width, 5 * width, 222220, 111111}, {1000000, 6 * width, 6 * width, 2222200, 1111111},
		{none, 0, 7 * width, 2222000, 1111111}, {none, 0, 8 * width, 2220000, 1111111}, {none, 0, 9 * width, 2200000, 1111111},
		{none, 0, 10 * width, 2000000, 1111111}, {none, 0, 11*width - 1, 2000000, 1111111}, {none, 0, 11 * width, 0, 1111111},
		{none, 0, top, 0, 1111111}, {none, 0, 6 * width, 2222200, 1111111}, // that was asked, and turned nothing
	})
}

// TestSkips: slots that are skipped have no bytes, however often the row went round.
func TestSkips(t *testing.T) {
	for _, by := range []int64{1, 2, api.Slots - 2, api.Slots - 1, api.Slots, api.Slots + 1, 2*api.Slots - 1, 2 * api.Slots, 2*api.Slots + 1, 10 * api.Slots, 1000003, 1 << 40} {
		for from := range int64(api.Slots) {
			m, w := meter.New(), &told{}
			for i := range int64(api.Slots) { // the row is full
				m.Add(1<<i, (from+i)*width)
				w.add(1<<i, (from+i)*width)
			}
			at := (from + api.Slots - 1 + by) * width
			m.Add(1000, at)
			w.add(1000, at)
			for s := range int64(2 * api.Slots) {
				if got, want := m.Rate(at+s*width), w.rate(at+s*width); got != want {
					t.Errorf("P16.1: from %d, by %d, %d later: %d, want %d", from, by, s, got, want)
				}
			}
			if got := m.Total(); got != 1000+1<<api.Slots-1 {
				t.Errorf("P16.1: from %d, by %d: Total %d", from, by, got)
			}
		}
	}
	walk(t, "one", []step{{1, 0, 0, 2, 1}, {2, 2 * width, 2 * width, 6, 3}, {none, 0, window, 4, 3}})
	walk(t, "Slots less one", []step{{1, 0, 0, 2, 1}, {2, window, window, 4, 3}, {none, 0, 0, 4, 3}})
	walk(t, "Slots", []step{{1, 0, 0, 2, 1}, {2, window + width, 0, 4, 3}})
	walk(t, "to the end", []step{{1, 0, 0, 2, 1}, {2, top, 0, 4, 3}, {4, top, top, 12, 7}, {8, 0, 0, 28, 15}})
}

// TestEarlier: bytes of an earlier slot than the last one count in the last one.
func TestEarlier(t *testing.T) {
	const at = 23 * width
	for _, now := range []int64{at - 1, at - width, at - width - 1, at - 2*width, at - window + width, at - window, at - window - 1, at - 2*window, width, 1, 0, -1, -width, bottom} {
		walk(t, "earlier", []step{
			{1, at, at, 2, 1}, {2, now, at, 6, 3}, {none, 0, now, 6, 3}, {none, 0, at + window - 1, 6, 3}, {none, 0, at + window, 0, 3},
			{4, at + width, at, 14, 7}, {8, now, at + window - 1, 30, 15}, {none, 0, at + window, 24, 15}, {none, 0, at + window + width, 0, 15},
		})
	}
	walk(t, "the last one still", []step{{1, at, at, 2, 1}, {2, 0, 0, 6, 3}, {4, at, at, 14, 7}, {8, at + width - 1, at, 30, 15}, {none, 0, at + window, 0, 15}})
}

// TestTimes: a now below 0 is as 0, and there is a slot of the greatest one.
func TestTimes(t *testing.T) {
	for _, now := range []int64{bottom, bottom + 1, -window - 1, -window, -width - 1, -width, -1, 0} {
		walk(t, "below 0", []step{{3, now, now, 6, 3}, {none, 0, 0, 6, 3}, {none, 0, window - 1, 6, 3}, {none, 0, window, 0, 3}, {4, width, now, 14, 7}, {5, now, window, 18, 12}})
	}
	const begin = top / width * width
	walk(t, "the last slot of all", []step{
		{3, top, top, 6, 3}, {4, top, top - 1, 14, 7}, {5, begin, begin, 24, 12}, {6, begin - 1, top, 36, 18}, {7, bottom, 0, 50, 25}, {none, 0, bottom, 50, 25},
	})
	walk(t, "the one ahead of it", []step{
		{3, begin - 1, top, 6, 3}, {4, begin, top, 14, 7}, {none, 0, 0, 14, 7},
	})
	walk(t, "a window ahead of it", []step{
		{3, begin - window + width - 1, begin - 1, 6, 3}, {none, 0, begin, 0, 3}, {none, 0, top, 0, 3}, {4, top, 0, 8, 7},
	})
	walk(t, "from one end to the other", []step{{3, bottom, bottom, 6, 3}, {none, 0, top, 0, 3}, {none, 0, bottom, 6, 3}, {4, top, bottom, 8, 7}, {5, bottom, top, 18, 12}})
}

// TestAsked: a Rate ahead of an Add turns nothing, however far ahead it is.
func TestAsked(t *testing.T) {
	for _, ahead := range edges() {
		a, b := meter.New(), meter.New()
		for i, now := range []int64{0, 5, width, 3 * width, 2 * width, 7 * width, 7 * width, 0, 11*width + 5} {
			a.Rate(ahead)
			a.Add(1<<i, now)
			a.Rate(ahead)
			a.Total()
			b.Add(1<<i, now)
			for _, at := range []int64{0, now, now + width, now + window - 1, now + window} {
				if got, want := a.Rate(at), b.Rate(at); got != want || a.Rate(at) != got {
					t.Errorf("P16.1: Rate(%d) asked ahead, after Add(%d, %d): Rate(%d): %d, want %d", ahead, 1<<i, now, at, got, want)
				}
			}
			if a.Total() != b.Total() || a.Total() != 1<<(i+1)-1 {
				t.Errorf("P16.1: Rate(%d) asked ahead: Total %d, %d", ahead, a.Total(), b.Total())
			}
		}
	}
}

// TestBytes: a byte of the window counts as two a second, each for itself.
func TestBytes(t *testing.T) {
	for n := range 3000 {
		walk(t, "bytes", []step{{n, 0, 0, int64(2 * n), int64(n)}, {1, 0, 0, int64(2*n + 2), int64(n + 1)}, {n, width, 0, int64(4*n + 2), int64(2*n + 1)}})
	}
}

// TestMany: of many bytes the sums and the products are held at 2^63 - 1; what is rounded then is rounded up.
func TestMany(t *testing.T) {
	const most = top / 1000000 // the last sum of which the product is one of the numbers
	walk(t, "up to what the product lets", []step{{most, 0, 0, 2 * most, most}})
	walk(t, "one more", []step{{most + 1, 0, 0, highest, most + 1}})
	walk(t, "two more", []step{{most + 2, 0, 0, highest, most + 2}})
	walk(t, "one more, in parts", []step{{most, 0, 0, 2 * most, most}, {1, width, 0, highest, most + 1}, {1, 2 * width, 0, highest, most + 2}, {none, 0, window, 4, most + 2}})
	walk(t, "the most there is", []step{
		{top, 0, 0, highest, top}, {1, 0, 0, highest, top}, {top, 0, 0, highest, top}, {0, 0, window - 1, highest, top}, {none, 0, window, 0, top},
		{7, window, 0, 14, top}, // the sum of all is held, that of the slots is not
	})
	walk(t, "one less than the most", []step{{top - 1, 0, 0, highest, top - 1}, {1, 0, 0, highest, top}, {1, 0, 0, highest, top}})
	walk(t, "each slot the most", []step{
		{top, 0, 0, highest, top}, {top, width, 0, highest, top}, {top, 2 * width, 0, highest, top}, {top, 3 * width, 0, highest, top}, {top, 4 * width, 0, highest, top},
		{none, 0, window + 3*width, highest, top}, {none, 0, window + 4*width, 0, top},
	})
	walk(t, "halves", []step{{1 << 62, 0, 0, highest, 1 << 62}, {1 << 62, 0, 0, highest, top}, {1 << 62, width, 0, highest, top}, {5, 2 * width, window + width, 10, top}})
}

// TestTotal: of all, of what came in an earlier slot and of what fell out of the window too.
func TestTotal(t *testing.T) {
	m, want := meter.New(), int64(0)
	for i, now := range []int64{0, width, 0, 9 * width, 8 * width, 0, -5, bottom, 1000003 * width, 1000003*width - 1, top, 0, top, bottom} {
		m.Add(i*i, now)
		want += int64(i * i)
		m.Add(-i-1, now)
		m.Add(0, now)
		for _, at := range edges() {
			m.Rate(at)
			if got := m.Total(); got != want {
				t.Errorf("P16.1: step %d, behind Rate(%d): Total %d, want %d", i, at, got, want)
			}
		}
	}
}

// TestPairs: each edge with each.
func TestPairs(t *testing.T) {
	all := edges()
	for _, one := range all {
		for _, two := range all {
			m, w := meter.New(), &told{}
			for i, now := range []int64{one, two, one} {
				m.Add(1<<i, now)
				w.add(1<<i, now)
				for _, at := range all {
					if got, want := m.Rate(at), w.rate(at); got != want {
						t.Fatalf("P16.1: Add at %d, %d, step %d, Rate(%d): %d, want %d", one, two, i, at, got, want)
					}
				}
			}
			if got, want := m.Total(), w.total(); got != want {
				t.Fatalf("P16.1: Add at %d, %d: Total %d, want %d", one, two, got, want)
			}
		}
	}
}

func TestAny(t *testing.T) {
	r := rand.New(rand.NewSource(1))
	for run := range 2000 {
		m, w := meter.New(), &told{}
		wide := []int64{width / 3, width, 2 * width, window, 3 * window, 1 << 45}[run%6]
		now := r.Int63n(3*window) - width
		for step := range 60 {
			n := r.Intn(3000) - 100
			if r.Intn(10) == 0 {
				n = int(r.Uint64() >> r.Intn(64))
			}
			m.Add(n, now)
			w.add(n, now)
			at := now + r.Int63n(2*window) - window/2
			if got, want := m.Rate(at), w.rate(at); got != want || m.Rate(at) != got {
				t.Fatalf("P16.1: run %d, step %d: Rate(%d): %d, want %d", run, step, at, got, want)
			}
			if got, want := m.Total(), w.total(); got != want || m.Total() != got {
				t.Fatalf("P16.1: run %d, step %d: Total %d, want %d", run, step, got, want)
			}
			now += r.Int63n(wide) - wide/5
		}
	}
}

// TestApart: of two that are made, what is added to one turns no other.
func TestApart(t *testing.T) {
	r := rand.New(rand.NewSource(2))
	for range 200 {
		a, b, c := meter.New(), meter.New(), meter.New()
		one, two := &told{}, &told{}
		for range 40 {
			m, w, n, now := a, one, r.Intn(90), r.Int63n(3*window)
			if r.Intn(2) == 0 {
				m, w, n, now = b, two, 1000*r.Intn(90), r.Int63n(9*window)
			}
			m.Add(n, now)
			w.add(n, now)
			for _, at := range []int64{0, now, now + width, now + window} {
				if a.Rate(at) != one.rate(at) || b.Rate(at) != two.rate(at) || c.Rate(at) != 0 {
					t.Fatalf("R2: Rate(%d): %d, %d, %d, want %d, %d, 0", at, a.Rate(at), b.Rate(at), c.Rate(at), one.rate(at), two.rate(at))
				}
			}
			if a.Total() != one.total() || b.Total() != two.total() || c.Total() != 0 {
				t.Fatalf("R2: Total %d, %d, %d, want %d, %d, 0", a.Total(), b.Total(), c.Total(), one.total(), two.total())
			}
		}
	}
}
