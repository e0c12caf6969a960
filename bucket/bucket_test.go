package bucket_test

import (
	"math"
	"math/big"
	"math/rand"
	"testing"

	"limelight/bucket"
)

const (
	top     = math.MaxInt64
	bottom  = math.MinInt64
	most    = 1 << 40
	million = 1000000
)

// told is a bucket by the chapter's words, in numbers of any size.
type told struct {
	rate, burst, level *big.Int
}

func num(n int64) *big.Int { return big.NewInt(n) }

func sum(a, b *big.Int) *big.Int { return new(big.Int).Add(a, b) }

func less(a, b *big.Int) *big.Int { return new(big.Int).Sub(a, b) }

func times(a, b *big.Int) *big.Int { return new(big.Int).Mul(a, b) }

func fold(n *big.Int) *big.Int { return times(n, num(million)) }

func lower(a, b *big.Int) *big.Int {
	if a.Cmp(b) < 0 {
		return a
	}
	return b
}

// up answers n by by, rounded up.
func up(n, by *big.Int) *big.Int {
	q, rest := new(big.Int).QuoRem(n, by, new(big.Int))
	if rest.Sign() > 0 {
		q.Add(q, num(1))
	}
	return q
}

func held(n int64) *big.Int {
	switch {
	case n < 0:
		return num(0)
	case n > most:
		return num(most)
	}
	return num(n)
}

func tell(rate, burst int64) *told {
	return &told{held(rate), held(burst), fold(held(burst))}
}

func (m *told) tick(us int64) {
	if us > 0 {
		m.level = lower(sum(m.level, times(m.rate, num(us))), fold(m.burst))
	}
}

func (m *told) take(n int64) bool {
	if n < 0 || m.level.Cmp(fold(num(n))) < 0 {
		return false
	}
	m.level = less(m.level, fold(num(n)))
	return true
}

func (m *told) wait(n int64) int64 {
	switch {
	case n >= 0 && m.level.Cmp(fold(num(n))) >= 0:
		return 0
	case n < 0 || num(n).Cmp(m.burst) > 0 || m.rate.Sign() == 0:
		return -1
	}
	return up(less(fold(num(n)), m.level), m.rate).Int64()
}

func (m *told) whole() int64 { return new(big.Int).Quo(m.level, num(million)).Int64() }

// Kinds of calls.
const (
	tick = iota
	take
	rate
)

// call is one that works on a bucket.
type call struct {
	kind int
	n    int64
}

func (c call) on(b *bucket.Bucket) bool {
	switch c.kind {
	case tick:
		b.Tick(c.n)
	case rate:
		b.Rate(c.n)
	case take:
		return b.Take(c.n)
	}
	return false
}

func (c call) onTold(m *told) bool {
	switch c.kind {
	case tick:
		m.tick(c.n)
	case rate:
		m.rate = held(c.n)
	case take:
		return m.take(c.n)
	}
	return false
}

// both are a bucket and what must be told of it; calls are those that it has had.
type both struct {
	rate, burst int64
	b           *bucket.Bucket
	m           *told
	calls       []call
}

func pair(rate, burst int64, l ...call) *both {
	p := &both{rate: rate, burst: burst, b: bucket.New(rate, burst), m: tell(rate, burst)}
	for _, c := range l {
		p.calls = append(p.calls, c)
		c.on(p.b)
		c.onTold(p.m)
	}
	return p
}

// do makes a call and holds its answer against the chapter's words.
func (p *both) do(t *testing.T, c call) bool {
	t.Helper()
	p.calls = append(p.calls, c)
	got, want := c.on(p.b), c.onTold(p.m)
	if got != want {
		t.Fatalf("P10.1: New(%d, %d), %v: the last answers %v, want %v", p.rate, p.burst, p.calls, got, want)
	}
	return got
}

// hold holds what the bucket tells against the chapter's words, Wait for what lies about its level and its burst too.
func (p *both) hold(t *testing.T, waits ...int64) {
	t.Helper()
	if got, want := p.b.Level(), p.m.whole(); got != want {
		t.Fatalf("P10.1: New(%d, %d), %v: Level %d, want %d", p.rate, p.burst, p.calls, got, want)
	}
	if got, want := p.b.Burst(), p.m.burst.Int64(); got != want {
		t.Fatalf("P10.1: New(%d, %d), %v: Burst %d, want %d", p.rate, p.burst, p.calls, got, want)
	}
	level, burst := p.m.whole(), p.m.burst.Int64()
	for _, n := range append([]int64{bottom, -1, 0, 1, level - 1, level, level + 1, burst - 1, burst, burst + 1, top}, waits...) {
		if got, want := p.b.Wait(n), p.m.wait(n); got != want {
			t.Fatalf("P10.1: New(%d, %d), %v: Wait(%d) = %d, want %d", p.rate, p.burst, p.calls, n, got, want)
		}
	}
}

// again answers a bucket that has had the same calls.
func (p *both) again() *bucket.Bucket {
	b := bucket.New(p.rate, p.burst)
	for _, c := range p.calls {
		c.on(b)
	}
	return b
}

// fine answers the millionths of a byte that are there, where they are below the burst: at a rate of 1 each takes a microsecond.
func fine(b *bucket.Bucket) int64 {
	b.Rate(1)
	return b.Burst()*million - b.Wait(b.Burst())
}

// edges are rates and bursts about which something changes.
func edges() []int64 {
	return []int64{bottom, bottom + 1, -most - 1, -most, -2, -1, 0, 1, 2, 3, 7, 999999, million, 1000001, 1<<32 - 1, 1 << 32, most - 1, most, most + 1, most + 2, 1 << 41, 1 << 62, top - 1, top}
}

// spans are numbers of microseconds: such with which a rate times them, or the sum, is next to 2^63 - 1 and to 2^64 too.
func spans() []int64 {
	return []int64{bottom, bottom + 1, -million, -1, 0, 1, 2, 999, 1000, 333333, 333334, 999999, million, 1000001, 1<<23 - 1, 1 << 23, 1<<23 + 1, 1<<24 - 1, 1 << 24, 1<<24 + 1, 1 << 25, 1<<40 + 1, 1 << 50, 1 << 62, top / million, top/million + 1, top / 7, top/7 + 1, top - most*million, top - 1, top}
}

// sizes are numbers of bytes: such whose 10^6 fold is next to 2^63 - 1 and to 2^64, or whose lowest bits alone are small.
func sizes() []int64 {
	return []int64{bottom, bottom + 1, -most, -million, -2, -1, 0, 1, 2, 3, 6, 7, 8, 1499, 1500, 999999, million, most - 1, most, most + 1, top / million, top/million + 1, 18446744073709, 18446744073710, 18446744073711, 1 << 44, 1 << 58, 1 << 62, top - 1, top}
}

func TestRuns(t *testing.T) {
	b := bucket.New(0, 5)
	if b.Take(6) {
		t.Error("P10.1: New(0, 5): Take(6): true") // the chapter's run
	}
	if !b.Take(0) || b.Take(-1) || b.Level() != 5 {
		t.Error("P10.1: Take(0), Take(-1): not true, false") // its examples
	}
	if !b.Take(2) || b.Level() != 3 || b.Take(4) || b.Level() != 3 || !b.Take(3) || b.Level() != 0 || b.Take(1) || !b.Take(0) {
		t.Error("P10.1: New(0, 5): Take(2), 4, 3, 1, 0")
	}
}

func TestNew(t *testing.T) {
	for _, c := range []struct{ n, want int64 }{
		{bottom, 0}, {bottom + 1, 0}, {-most, 0}, {-1, 0}, {0, 0}, {1, 1}, {2, 2}, {1500, 1500}, {most - 1, most - 1}, {most, most}, {most + 1, most}, {1 << 41, most}, {1 << 62, most}, {top - 1, most}, {top, most},
	} {
		for _, rate := range edges() {
			b := bucket.New(rate, c.n)
			if b.Burst() != c.want || b.Level() != c.want {
				t.Errorf("P10.1: New(%d, %d): Burst %d, Level %d, want %d", rate, c.n, b.Burst(), b.Level(), c.want)
			}
			if b.Take(c.want+1) || b.Level() != c.want || !b.Take(c.want) || b.Level() != 0 || b.Take(1) || b.Burst() != c.want {
				t.Errorf("P10.1: New(%d, %d): not %d bytes are there", rate, c.n, c.want)
			}
		}
		b := bucket.New(c.n, most)
		b.Take(most)
		if b.Tick(million); b.Level() != c.want { // a second brings the rate
			t.Errorf("P10.1: New(%d, 2^40): %d in a second, want %d", c.n, b.Level(), c.want)
		}
		b.Rate(7)
		b.Rate(c.n)
		b.Take(b.Level())
		if b.Tick(million); b.Level() != c.want {
			t.Errorf("P10.1: Rate(%d): %d in a second, want %d", c.n, b.Level(), c.want)
		}
	}
}

// TestNewEachWithEach goes through rates and bursts, each with each, and sets each rate behind each.
func TestNewEachWithEach(t *testing.T) {
	for _, first := range edges() {
		for _, burst := range edges() {
			p := pair(first, burst)
			p.hold(t, sizes()...)
			p.do(t, call{take, p.b.Burst()})
			p.hold(t, sizes()...)
			for _, second := range edges() {
				p.do(t, call{rate, second})
				p.hold(t, sizes()...)
				p.do(t, call{tick, 1})
				p.hold(t)
				p.do(t, call{take, p.b.Level()})
			}
		}
	}
}

func TestTick(t *testing.T) {
	for _, c := range []struct{ rate, burst, us, want int64 }{ // of an empty one: the level behind it
		{1000, 50, 0, 0}, {1000, 50, 1, 0}, {1000, 50, 999, 0}, {1000, 50, 1000, 1}, {1000, 50, 1999, 1}, {1000, 50, 2000, 2}, {1000, 50, 49999, 49}, {1000, 50, 50000, 50}, {1000, 50, 50001, 50}, {1000, 50, top, 50},
		{1000, 50, -1, 0}, {1000, 50, -50000, 0}, {1000, 50, bottom, 0}, {1000, 50, bottom + 1, 0}, {most, most, -1, 0}, {most, most, bottom, 0},
		{million, 5, 1, 1}, {million, 5, 4, 4}, {million, 5, 6, 5}, {999999, 5, 1, 0}, {999999, 5, 2, 1}, {1000001, 5, 1, 1}, {3, 9, 333333, 0}, {3, 9, 333334, 1}, {3, 9, 666666, 1}, {3, 9, 666667, 2}, {3, 9, million, 3}, {7, 9, million, 7}, {7, 9, 2 * million, 9},
		{0, 50, 1, 0}, {0, 50, top, 0}, {0, most, top, 0}, {-5, 50, top, 0}, {bottom, 50, top, 0}, {5, 0, top, 0}, {most, 0, top, 0}, {0, 0, top, 0},
		{1, most, top, most}, {1, most, most*million - 1, most - 1}, {1, most, most * million, most}, {1, most, 1<<62 + 1, most}, {2, most, 1 << 62, most}, {2, most, 1<<62 - 1, most}, {4, most, 1 << 62, most}, {4, most, 1<<62 + 1, most}, {8, most, 1<<61 + 1, most}, // products of 2^63 and 2^64 too
		{most, most, 1, 1099511}, {most, most, million, most}, {most, most, 999999, most - 1099512}, {most, most, 1000001, most}, {most, most, 1<<23 - 1, most}, {most, most, 1 << 23, most}, {most, most, 1 << 24, most}, {most, most, 1<<24 + 1, most}, {most, most, top, most}, {top, top, top, most}, {most, 5, top, 5}, {most, 5, 1 << 24, 5},
	} {
		b := bucket.New(c.rate, c.burst)
		b.Take(b.Burst())
		if b.Tick(c.us); b.Level() != c.want {
			t.Errorf("P10.1: New(%d, %d), Take all, Tick(%d): Level %d, want %d", c.rate, c.burst, c.us, b.Level(), c.want)
		}
		full := bucket.New(c.rate, c.burst)
		if full.Tick(c.us); full.Level() != full.Burst() || full.Take(full.Burst()+1) || !full.Take(full.Burst()) {
			t.Errorf("P10.1: New(%d, %d), Tick(%d): not %d bytes are there", c.rate, c.burst, c.us, full.Burst())
		}
	}
}

// TestTickEachWithEach goes through rates, bursts and times, each with each, from a full, an empty and a part level, and ticks twice, so that sums too pass what is held at.
func TestTickEachWithEach(t *testing.T) {
	for _, r := range edges() {
		for _, burst := range edges() {
			whole := held(burst).Int64()
			for _, us := range spans() {
				for _, left := range []int64{0, 1, whole / 2, whole - 1, whole} {
					p := pair(r, burst, call{take, whole - left})
					p.do(t, call{tick, us})
					p.hold(t)
					p.do(t, call{tick, us})
					p.hold(t)
				}
			}
		}
	}
}

func TestTake(t *testing.T) {
	for _, c := range []struct {
		burst, n int64
		want     bool
	}{
		{50, 0, true}, {50, 1, true}, {50, 49, true}, {50, 50, true}, {50, 51, false}, {50, 100, false}, {50, -1, false}, {50, -50, false}, {50, bottom, false}, {50, bottom + 1, false}, {50, top, false},
		{0, 0, true}, {0, 1, false}, {0, -1, false}, {0, top, false}, {0, bottom, false}, {-5, 0, true}, {-5, -5, false}, {-5, 1, false}, {1, 1, true}, {1, 2, false},
		{most, most, true}, {most, most - 1, true}, {most, most + 1, false}, {top, most, true}, {top, most + 1, false}, {top, top, false}, {most, -1, false}, {most, bottom, false},
		{most, top / million, false}, {most, top/million + 1, false}, {50, top / million, false}, {50, top/million + 1, false}, // 10^6 folds next to 2^63 - 1
		{most, 18446744073709, false}, {most, 18446744073710, false}, {50, 18446744073710, false}, {50, 1 << 58, false}, {50, 1 << 62, false}, {0, 1 << 58, false}, {most, 1<<58 + 1, false}, {most, 1<<44 + 1, false}, // next to 2^64, and such whose lowest 64 bits are small
	} {
		b := bucket.New(1, c.burst)
		ok, want := b.Take(c.n), b.Burst()
		if c.want {
			want -= c.n
		}
		if ok != c.want || b.Level() != want {
			t.Errorf("P10.1: New(1, %d): Take(%d) = %v, Level %d, want %v, %d", c.burst, c.n, ok, b.Level(), c.want, want)
		}
	}
}

// parted answers calls behind which levels lie on, between and next to whole bytes.
func parted(burst int64) [][]call {
	whole := held(burst).Int64()
	var l [][]call
	for _, left := range []int64{0, 1, whole / 3, whole - 1, whole} {
		for _, us := range []int64{0, 1, 2, 333333, 500000, 999999, million, 1000001} {
			l = append(l, []call{{take, whole - left}, {rate, 1}, {tick, us}})
		}
	}
	return l
}

// TestTakeEachWithEach goes through bursts, levels and sizes, each with each: what is taken, and that a refused one takes nothing, not a millionth.
func TestTakeEachWithEach(t *testing.T) {
	for _, burst := range edges() {
		for _, l := range parted(burst) {
			level := pair(0, burst, l...).b.Level()
			for _, n := range append(sizes(), level-1, level, level+1, level+2) {
				p := pair(0, burst, l...)
				was := fine(p.again())
				ok := p.do(t, call{take, n})
				p.hold(t)
				if now := fine(p.again()); !ok && now != was || ok && now != was-n*million {
					t.Fatalf("P10.1: New(0, %d), %v: %d millionths, before it %d", burst, p.calls, now, was)
				}
				p.do(t, call{take, n})
				p.do(t, call{tick, 1})
				p.hold(t)
			}
		}
	}
}

func TestWait(t *testing.T) {
	for _, c := range []struct{ rate, burst, taken, n, want int64 }{
		{1000, 50, 0, 0, 0}, {1000, 50, 0, 1, 0}, {1000, 50, 0, 50, 0}, {1000, 50, 50, 0, 0}, {1000, 50, 20, 30, 0}, {0, 50, 20, 30, 0}, {0, 50, 50, 0, 0}, {0, 0, 0, 0, 0}, {bottom, 50, 20, 30, 0}, {0, most, 0, most, 0}, // it goes already
		{1000, 50, 50, 1, 1000}, {1000, 50, 50, 50, 50000}, {1000, 50, 20, 31, 1000}, {1000, 50, 20, 50, 20000}, {1, 50, 50, 50, 50 * million}, {million, 50, 50, 1, 1}, {million, 50, 50, 50, 50}, // even
		{3, 50, 50, 1, 333334}, {3, 50, 50, 2, 666667}, {3, 50, 50, 3, million}, {7, 50, 50, 1, 142858}, {7, 50, 10, 41, 142858}, {999999, 50, 50, 1, 2}, {1000001, 50, 50, 1, 1}, {1000001, 50, 50, 50, 50}, {2000001, 50, 50, 50, 25}, {most, 50, 50, 1, 1}, {most, 50, 50, 50, 1}, // rounded up
		{1, most, most, most, most * million}, {2, most, most, most, most * million / 2}, {3, most, most, most, 366503875925333334}, {most, most, most, most, million}, {most, most, most, 1, 1}, {most - 1, most, most, most, 1000001}, {top, top, most, most, million}, {most, most, 1, most, 1}, {1, most, 1, most, million}, // the greatest ones
		{1000, 50, 0, -1, -1}, {1000, 50, 50, -1, -1}, {1000, 50, 0, bottom, -1}, {1000, 50, 0, bottom + 1, -1}, {0, 50, 0, -1, -1}, {0, 0, 0, -1, -1}, {most, most, 0, -1, -1}, // below 0
		{1000, 50, 0, 51, -1}, {1000, 50, 50, 51, -1}, {1000, 50, 0, top, -1}, {0, 50, 0, 51, -1}, {1000, 0, 0, 1, -1}, {1000, -5, 0, 1, -1}, {most, most, 0, most + 1, -1}, {top, top, 0, most + 1, -1}, {top, top, 0, top, -1}, {most, most, 0, top / million, -1}, {most, most, 0, 18446744073710, -1}, {most, most, 0, 1 << 58, -1}, // above the burst
		{0, 50, 50, 1, -1}, {0, 50, 20, 31, -1}, {0, 50, 1, 50, -1}, {-5, 50, 50, 1, -1}, {bottom, 50, 50, 50, -1}, {0, most, most, most, -1}, // a rate of 0
	} {
		b := bucket.New(c.rate, c.burst)
		b.Take(c.taken)
		level := b.Level()
		if got := b.Wait(c.n); got != c.want || b.Wait(c.n) != c.want || b.Level() != level {
			t.Errorf("P10.1: New(%d, %d), Take(%d): Wait(%d) = %d, want %d", c.rate, c.burst, c.taken, c.n, got, c.want)
		}
	}
}

// holdWait holds Wait(n) against what Take does: it goes behind that time, and not a microsecond earlier.
func (p *both) holdWait(t *testing.T, n int64) {
	t.Helper()
	us := p.b.Wait(n)
	later, earlier := p.again(), p.again()
	later.Tick(us)
	earlier.Tick(us - 1)
	switch {
	case us < 0:
		later.Tick(top)
		if us != -1 || later.Take(n) {
			t.Fatalf("P10.1: New(%d, %d), %v: Wait(%d) = %d, but it goes in the end", p.rate, p.burst, p.calls, n, us)
		}
	case us == 0 && !p.again().Take(n):
		t.Fatalf("P10.1: New(%d, %d), %v: Wait(%d) = 0, but it does not go", p.rate, p.burst, p.calls, n)
	case us > 0 && (earlier.Take(n) || !later.Take(n)):
		t.Fatalf("P10.1: New(%d, %d), %v: Wait(%d) = %d is not when it begins to go", p.rate, p.burst, p.calls, n, us)
	}
}

// TestWaitEachWithEach goes through rates, bursts, levels and sizes, each with each.
func TestWaitEachWithEach(t *testing.T) {
	for _, r := range edges() {
		for _, burst := range edges() {
			for _, l := range parted(burst) {
				p := pair(0, burst, append(l, call{rate, r})...)
				level := p.b.Level()
				for _, n := range append(sizes(), level, level+1, p.b.Burst()) {
					p.holdWait(t, n)
				}
				p.hold(t, sizes()...)
			}
		}
	}
}

// TestBetweenWholeBytes fills a byte by millionths: Level tells it when all of them are there, by whatever rates they came.
func TestBetweenWholeBytes(t *testing.T) {
	b := bucket.New(1, 5)
	b.Take(5)
	for _, c := range []struct{ rate, us, want, wait int64 }{
		{1, 1, 0, 999999}, {1, 999997, 0, 2}, {1, 1, 0, 1}, {0, top, 0, -1}, {1, 1, 1, 0}, {1, 999999, 1, 0}, {3, 0, 1, 0}, {1, 1, 2, 0}, {999999, 1, 2, 0}, {1, 1, 3, 0}, {999999, 2, 4, 0}, {2, 1, 5, 0}, {1, 1, 5, 0},
	} {
		b.Rate(c.rate)
		if b.Tick(c.us); b.Level() != c.want || b.Wait(1) != c.wait {
			t.Fatalf("P10.1: Rate(%d), Tick(%d): Level %d, Wait(1) %d, want %d, %d", c.rate, c.us, b.Level(), b.Wait(1), c.want, c.wait)
		}
	}
	b = bucket.New(999999, 2)
	b.Take(2)
	if b.Tick(1); b.Take(1) || b.Level() != 0 {
		t.Error("P10.1: a byte goes a millionth too early")
	}
	if b.Tick(1); !b.Take(1) || b.Level() != 0 || b.Wait(1) != 1 { // 999998 are left
		t.Error("P10.1: what is above a whole byte does not stay")
	}
	if b.Rate(1); b.Wait(1) != 2 || b.Wait(2) != million+2 {
		t.Errorf("P10.1: what is above a whole byte is not 999998 millionths: %d", b.Wait(1))
	}
	b.Rate(million)
	b.Tick(1)
	if b.Tick(1); b.Level() != 2 || fine(b) != 2*million { // full: what is above is lost, in millionths too
		t.Errorf("P10.1: full, but %d", b.Level())
	}
	if b.Take(1); fine(b) != million {
		t.Errorf("P10.1: what was above the burst was kept: %d", fine(b))
	}
}

// TestTimeInPartsAndAtOnce holds rows of ticks against one tick of their sum.
func TestTimeInPartsAndAtOnce(t *testing.T) {
	r := rand.New(rand.NewSource(1))
	for n := range 4000 {
		speed, burst := r.Int63n(most+1)>>r.Intn(41), r.Int63n(most+1)>>r.Intn(41)
		parts, once := bucket.New(speed, burst), bucket.New(speed, burst)
		gone := burst - r.Int63n(burst+1)>>r.Intn(41)
		parts.Take(gone)
		once.Take(gone)
		all := int64(0)
		for range 1 + r.Intn(30) {
			us := r.Int63n(1<<24) >> r.Intn(25)
			parts.Tick(us)
			parts.Tick(0)
			parts.Tick(-us)
			all += us
		}
		once.Tick(all)
		if parts.Level() != once.Level() || parts.Wait(burst) != once.Wait(burst) || fine(parts) != fine(once) {
			t.Fatalf("P10.1: run %d: New(%d, %d), Take(%d): %d microseconds in parts and at once are not the same", n, speed, burst, gone, all)
		}
	}
	one, many := bucket.New(999983, 100), bucket.New(999983, 100)
	one.Take(100)
	many.Take(100)
	for range 97 {
		many.Tick(1)
	}
	if one.Tick(97); one.Level() != 96 || many.Level() != 96 || fine(one) != fine(many) || fine(one) != 97*999983 {
		t.Errorf("P10.1: 97 microseconds, one by one: %d, %d", many.Level(), one.Level())
	}
}

// TestRate sets rates between ticks: what is there stays, and what was before is not reckoned anew.
func TestRate(t *testing.T) {
	b := bucket.New(1000, 50)
	b.Take(50)
	b.Tick(10000)
	for _, c := range []struct{ rate, us, want int64 }{
		{0, 0, 10}, {top, 0, 10}, {2000, 1000, 12}, {0, top, 12}, {-1, top, 12}, {bottom, top, 12}, {500, 1999, 12}, {500, 1, 13}, {1000, 1000, 14}, {most + 1, 0, 14}, {million, 6, 20}, {1000, -5000, 20}, {most, 1, 50}, {0, 1, 50},
	} {
		b.Rate(c.rate)
		if b.Tick(c.us); b.Level() != c.want || b.Burst() != 50 {
			t.Fatalf("P10.1: Rate(%d), Tick(%d): Level %d, want %d", c.rate, c.us, b.Level(), c.want)
		}
	}
	b.Rate(10)
	if b.Take(50); b.Wait(1) != 100000 {
		t.Errorf("P10.1: Rate(10): Wait(1) %d", b.Wait(1))
	}
	if b.Rate(20); b.Wait(1) != 50000 || b.Level() != 0 {
		t.Errorf("P10.1: Rate(20): Wait(1) %d", b.Wait(1))
	}
}

// TestApart works on two at a time: neither tells of the other.
func TestApart(t *testing.T) {
	a, b := pair(1000, 50), pair(7, 900)
	for i := range int64(200) {
		a.do(t, call{take, i % 17})
		b.do(t, call{take, i % 23})
		a.do(t, call{tick, 700 * i % 9001})
		b.do(t, call{rate, 31 * i % 1009})
		b.do(t, call{tick, 13 * i % 100003})
		a.hold(t)
		b.hold(t)
	}
}

// spent is what was taken at a time.
type spent struct {
	at    int64
	taken *big.Int
}

// holdStretches holds what was taken in each stretch of time against the burst, and the rate times it, rounded up.
func holdStretches(t *testing.T, rate, burst int64, l []spent) {
	t.Helper()
	for i := range l {
		all := num(0)
		for j := i; j < len(l); j++ {
			all = sum(all, l[j].taken)
			brought := times(held(rate), num(l[j].at-l[i].at))
			if bound := sum(held(burst), up(brought, num(million))); all.Cmp(bound) > 0 {
				t.Fatalf("P10.2: rate %d, burst %d: %v bytes in %d microseconds, at most %v", rate, burst, all, l[j].at-l[i].at, bound)
			}
		}
	}
}

// draw answers a number of up to 2^40, or an edge now and then.
func draw(r *rand.Rand, odd []int64) int64 {
	if r.Intn(12) == 0 {
		return odd[r.Intn(len(odd))]
	}
	return r.Int63n(most+1) >> r.Intn(41)
}

// size answers a number of bytes to ask for, often about what is there.
func size(r *rand.Rand, b *bucket.Bucket) int64 {
	switch r.Intn(4) {
	case 0:
		return b.Level()
	case 1:
		return b.Level() + 1
	case 2:
		return r.Int63n(b.Burst() + 2)
	}
	return draw(r, sizes())
}

// step makes a call that chance chooses, and answers the time and what was taken till it.
func (p *both) step(t *testing.T, r *rand.Rand, now int64) (int64, int64) {
	t.Helper()
	switch r.Intn(5) {
	case 0:
		us := r.Int63n(1<<24) >> r.Intn(25)
		p.do(t, call{tick, us})
		return now + us, 0
	case 1: // just so long that a size goes, or a microsecond less
		us := min(p.b.Wait(size(r, p.b))-int64(r.Intn(2)), 1<<50)
		p.do(t, call{tick, us})
		return now + max(us, 0), 0
	case 2:
		p.do(t, call{tick, []int64{bottom, -1, 0}[r.Intn(3)]})
		return now, 0
	}
	n := size(r, p.b)
	if p.do(t, call{take, n}) {
		return now, n
	}
	return now, 0
}

// TestRowsOfMixedCalls makes rows of calls, sets a new rate now and then, and looks at each stretch in which the rate stays.
func TestRowsOfMixedCalls(t *testing.T) {
	r := rand.New(rand.NewSource(2))
	for range 600 {
		speed, burst := draw(r, edges()), draw(r, edges())
		p := pair(speed, burst)
		for range 1 + r.Intn(4) {
			var l []spent
			now := int64(0)
			for range 60 {
				at, n := p.step(t, r, now)
				now = at
				p.hold(t, size(r, p.b))
				if n > 0 {
					l = append(l, spent{now, num(n)})
				}
			}
			holdStretches(t, speed, burst, l)
			speed = draw(r, edges())
			p.do(t, call{rate, speed})
		}
	}
}

// TestTakingAllThatGoes takes whatever is there at each tick: no stretch has more than P10.2 says, and all of it, rounded down, was there to be had.
func TestTakingAllThatGoes(t *testing.T) {
	r := rand.New(rand.NewSource(3))
	for _, c := range []struct{ rate, burst, us int64 }{
		{1000, 50, 700}, {1000, 50, 1}, {3, 9, 100003}, {1, 1, 999999}, {1, 1, 333333}, {999999, 1, 1}, {999999, 2, 1}, {1000001, 2, 1}, {1500000, 2, 1}, {7, most, 1 << 20}, {most, most, 99999}, {most - 1, most, 7}, {most, 1 << 30, 1}, {0, 50, 1000}, {50, 0, 1000}, {-1, most, top >> 20}, {top, top, 333},
	} {
		b := bucket.New(c.rate, c.burst)
		var l []spent
		now, all := int64(0), int64(0)
		lost := false
		for range 300 {
			n := b.Level()
			if b.Take(n+1) || !b.Take(n) || b.Level() != 0 {
				t.Fatalf("P10.1: New(%d, %d): Take of Level %d", c.rate, c.burst, n)
			}
			l = append(l, spent{now, num(n)})
			all += n
			us := r.Int63n(c.us + 1)
			b.Tick(us)
			now += us
			lost = lost || b.Level() == b.Burst()
		}
		holdStretches(t, c.rate, c.burst, l)
		brought := new(big.Int).Quo(times(held(c.rate), num(l[len(l)-1].at)), num(million))
		if want := sum(held(c.burst), brought); !lost && want.Cmp(num(all)) != 0 {
			t.Errorf("P10.1: New(%d, %d): %d bytes in all, want %v", c.rate, c.burst, all, want)
		}
	}
}

// TestStretchesOfSmallNumbers goes through all rows of a few ticks and takes of small numbers.
func TestStretchesOfSmallNumbers(t *testing.T) {
	for rate := int64(0); rate <= 3*400000; rate += 400000 {
		for burst := int64(0); burst <= 3; burst++ {
			for row := range 1 << 12 {
				p := pair(rate, burst)
				var l []spent
				now := int64(0)
				for rest := row; rest > 0; rest >>= 3 {
					us, n := int64(rest&1), int64(rest>>1&3)
					p.do(t, call{tick, us})
					now += us
					if p.do(t, call{take, n}) {
						l = append(l, spent{now, num(n)})
					}
				}
				p.hold(t, 2, 3)
				holdStretches(t, rate, burst, l)
			}
		}
	}
}
