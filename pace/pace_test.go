package pace_test

import (
	"bytes"
	"math"
	"math/big"
	"math/rand"
	"slices"
	"testing"

	"limelight/api"
	"limelight/pace"
)

const (
	top     = math.MaxInt64
	bottom  = math.MinInt64
	most    = 1 << 40
	million = 1000000
	room    = 16 // MaxQueue, as the document says it
	over    = 28 // Overhead
)

// told is a queue by the chapters' words, its bucket in numbers of any size.
type told struct {
	rate, burst, level *big.Int
	waits              [][]byte
	cut                int
}

func num(n int64) *big.Int { return big.NewInt(n) }

func sum(a, b *big.Int) *big.Int { return new(big.Int).Add(a, b) }

func less(a, b *big.Int) *big.Int { return new(big.Int).Sub(a, b) }

func times(a, b *big.Int) *big.Int { return new(big.Int).Mul(a, b) }

func fold(n *big.Int) *big.Int { return times(n, num(million)) }

// up answers n by by, rounded up.
func up(n, by *big.Int) *big.Int {
	q, rest := new(big.Int).QuoRem(n, by, new(big.Int))
	if rest.Sign() > 0 {
		q.Add(q, num(1))
	}
	return q
}

func held(n int64) *big.Int {
	switch {
	case n < 0:
		return num(0)
	case n > most:
		return num(most)
	}
	return num(n)
}

func tell(rate, burst int64) *told {
	return &told{rate: held(rate), burst: held(burst), level: fold(held(burst))}
}

func (m *told) tick(us int64) {
	if us > 0 {
		m.level = sum(m.level, times(m.rate, num(us)))
	}
	if m.level.Cmp(fold(m.burst)) > 0 {
		m.level = fold(m.burst)
	}
}

func (m *told) take(n int64) bool {
	if n < 0 || m.level.Cmp(fold(num(n))) < 0 {
		return false
	}
	m.level = less(m.level, fold(num(n)))
	return true
}

func (m *told) put(b []byte) bool {
	if len(m.waits) == room || num(int64(len(b))+over).Cmp(m.burst) > 0 {
		m.cut++
		return false
	}
	m.waits = append(m.waits, bytes.Clone(b))
	return true
}

func (m *told) gone() [][]byte {
	n := 0
	for n < len(m.waits) && m.take(int64(len(m.waits[n]))+over) {
		n++
	}
	l := m.waits[:n:n]
	m.waits = m.waits[n:]
	return l
}

func (m *told) wait(n int64) int64 {
	switch {
	case n >= 0 && m.level.Cmp(fold(num(n))) >= 0:
		return 0
	case n < 0 || num(n).Cmp(m.burst) > 0 || m.rate.Sign() == 0:
		return -1
	}
	return up(less(fold(num(n)), m.level), m.rate).Int64()
}

func (m *told) whole() int64 { return new(big.Int).Quo(m.level, num(million)).Int64() }

// Kinds of calls; the last three go by way of Bucket.
const (
	put = iota
	out
	tick
	rate
	ownTick
	ownRate
	ownTake
)

// call is one that works on a queue; n is what it is handed, of put how many bytes.
type call struct {
	kind int
	n    int64
}

// both are a queue and what must be told of it; calls are those that it has had.
type both struct {
	rate, burst int64
	q           *pace.Queue
	m           *told
	calls       []call
}

func pair(t *testing.T, rate, burst int64, l ...call) *both {
	t.Helper()
	p := &both{rate: rate, burst: burst, q: pace.New(rate, burst), m: tell(rate, burst)}
	for _, c := range l {
		p.do(t, c)
	}
	return p
}

// datagram answers n bytes of which those of another number differ.
func datagram(n int64, number int) []byte {
	b := make([]byte, n)
	for i := range b {
		b[i] = byte(number+i) ^ byte(number>>8)
	}
	return b
}

func same(a, b [][]byte) bool { return slices.EqualFunc(a, b, bytes.Equal) }

func sizes(l [][]byte) []int {
	var s []int
	for _, b := range l {
		s = append(s, len(b))
	}
	return s
}

func (p *both) fail(t *testing.T, what string, got, want any) {
	t.Helper()
	t.Fatalf("P11.1: New(%d, %d), %v: %s %v, want %v", p.rate, p.burst, p.calls, what, got, want)
}

// do makes a call, holds its answer against the chapter's words, and answers what went and whether it was true.
func (p *both) do(t *testing.T, c call) ([][]byte, bool) {
	t.Helper()
	p.calls = append(p.calls, c)
	var l [][]byte
	ok := false
	switch c.kind {
	case put:
		b := datagram(c.n, len(p.calls))
		ok = p.q.Put(b)
		if want := p.m.put(b); ok != want {
			p.fail(t, "Put", ok, want)
		}
	case out:
		l = p.q.Go()
		if want := p.m.gone(); !same(l, want) {
			p.fail(t, "Go of sizes", sizes(l), sizes(want))
		}
	case tick, ownTick:
		if c.kind == tick {
			p.q.Tick(c.n)
		} else {
			p.q.Bucket().Tick(c.n)
		}
		p.m.tick(c.n)
	case rate, ownRate:
		if c.kind == rate {
			p.q.Rate(c.n)
		} else {
			p.q.Bucket().Rate(c.n)
		}
		p.m.rate = held(c.n)
	case ownTake:
		ok = p.q.Bucket().Take(c.n)
		if want := p.m.take(c.n); ok != want {
			p.fail(t, "Bucket().Take", ok, want)
		}
	}
	p.hold(t)
	return l, ok
}

// hold holds what the queue and its bucket tell against the chapters' words; Wait tells of the rate and of what is finer than a byte.
func (p *both) hold(t *testing.T) {
	t.Helper()
	if got, want := p.q.Len(), len(p.m.waits); got != want {
		p.fail(t, "Len", got, want)
	}
	if got, want := p.q.Cut(), p.m.cut; got != want {
		p.fail(t, "Cut", got, want)
	}
	b, level, burst := p.q.Bucket(), p.m.whole(), p.m.burst.Int64()
	if b.Level() != level {
		p.fail(t, "Level", b.Level(), level)
	}
	if b.Burst() != burst {
		p.fail(t, "Burst", b.Burst(), burst)
	}
	for _, n := range []int64{-1, 0, level, level + 1, burst, burst + 1} {
		if got, want := b.Wait(n), p.m.wait(n); got != want {
			p.fail(t, "Wait", got, want)
		}
	}
}

// drain lets all that waits go, in whatever time it takes, and holds that it is just that.
func (p *both) drain(t *testing.T) {
	t.Helper()
	p.do(t, call{rate, most})
	for p.q.Len() > 0 {
		p.do(t, call{tick, top})
		if l, _ := p.do(t, call{out, 0}); len(l) == 0 {
			p.fail(t, "Go of a full bucket", len(l), "one at least")
		}
	}
}

// edges are rates and bursts about which something changes.
func edges() []int64 {
	return []int64{bottom, bottom + 1, -most, -over, -1, 0, 1, 2, over - 1, over, over + 1, 99, 100, 101, 1527, 1528, 1529, million, most - 1, most, most + 1, 1 << 62, top}
}

// spans are numbers of microseconds.
func spans() []int64 {
	return []int64{bottom, bottom + 1, -million, -1, 0, 1, 999, 1000, 27999999, 28000000, 99999999, 100000000, 1 << 24, 1 << 50, top - 1, top}
}

func TestRuns(t *testing.T) {
	q := pace.New(0, 100)
	if !q.Put([]byte("ten bytes!")) {
		t.Error("P11.1: New(0, 100): Put of ten bytes: false")
	}
	if l := q.Go(); len(l) != 1 || string(l[0]) != "ten bytes!" || q.Len() != 0 {
		t.Errorf("P11.1: New(0, 100): Put of ten bytes, Go: %q", l) // the chapter's run
	}
	if l := q.Go(); len(l) != 0 || q.Bucket().Level() != 62 {
		t.Errorf("P11.1: Go of an empty one: %q", l) // its examples
	}
	if q.Put(make([]byte, 101)) || q.Put(make([]byte, 73)) || q.Len() != 0 || q.Cut() != 2 {
		t.Error("P11.1: Put of more than the burst: true")
	}
}

func TestNew(t *testing.T) {
	for _, first := range edges() {
		for _, burst := range edges() {
			p := pair(t, first, burst)
			p.hold(t)
			if p.q.Len() != 0 || p.q.Cut() != 0 || p.q.Bucket() == nil {
				t.Errorf("P11.1: New(%d, %d): Len %d, Cut %d", first, burst, p.q.Len(), p.q.Cut())
			}
			p.do(t, call{out, 0})
			p.do(t, call{ownTake, p.q.Bucket().Burst()})
			p.do(t, call{out, 0})
			p.do(t, call{tick, million}) // a second brings the rate
		}
	}
}

func TestPut(t *testing.T) {
	for _, c := range []struct {
		burst, n int64
		want     bool
	}{
		{bottom, 0, false}, {-most, 0, false}, {-28, 0, false}, {-1, 0, false}, {-1, 1, false}, {0, 0, false}, {0, 1, false}, {1, 0, false}, {1, 1, false}, {27, 0, false}, {27, 1, false},
		{28, 0, true}, {28, 1, false}, {28, 28, false}, {29, 0, true}, {29, 1, true}, {29, 2, false}, {29, 29, false}, {56, 28, true}, {56, 29, false},
		{100, 0, true}, {100, 1, true}, {100, 71, true}, {100, 72, true}, {100, 73, false}, {100, 99, false}, {100, 100, false}, {100, 101, false}, {100, 128, false},
		{1527, 1500, false}, {1528, 1500, true}, {1528, 1501, false}, {1529, 1501, true}, {5000, 4972, true}, {5000, 4973, false}, // MaxPacket is none of its limits
		{1<<32 + 1, 2, true}, {most - 1, 1500, true}, {most, 1500, true}, {most + 1, 1500, true}, {top, 1500, true}, {top, 0, true}, {most, 1 << 20, true},
	} {
		for _, speed := range []int64{bottom, -1, 0, 1, most, top} {
			p := pair(t, speed, c.burst)
			level := p.q.Bucket().Level()
			if _, ok := p.do(t, call{put, c.n}); ok != c.want {
				t.Errorf("P11.1: New(%d, %d): Put of %d bytes: %v, want %v", speed, c.burst, c.n, ok, c.want)
			}
			if length, cut := p.q.Len(), p.q.Cut(); c.want && (length != 1 || cut != 0) || !c.want && (length != 0 || cut != 1) {
				t.Errorf("P11.1: New(%d, %d), Put of %d bytes: Len %d, Cut %d", speed, c.burst, c.n, length, cut)
			}
			if p.q.Bucket().Level() != level {
				t.Errorf("P11.1: New(%d, %d): Put of %d bytes takes from the bucket", speed, c.burst, c.n)
			}
			if l, _ := p.do(t, call{out, 0}); (len(l) == 1) != c.want {
				t.Errorf("P11.1: New(%d, %d), Put of %d bytes, Go: %v", speed, c.burst, c.n, sizes(l))
			}
		}
	}
}

// TestPutOfAnEmptyBucket holds that Put asks for the burst, not for what is there.
func TestPutOfAnEmptyBucket(t *testing.T) {
	for _, left := range []int64{0, 1, 27, 28, 99} {
		p := pair(t, 0, 100, call{ownTake, 100 - left})
		if _, ok := p.do(t, call{put, 72}); !ok {
			t.Errorf("P11.1: Put of just the burst, %d bytes in the bucket: false", left)
		}
		if _, ok := p.do(t, call{put, 73}); ok || p.q.Len() != 1 || p.q.Cut() != 1 {
			t.Errorf("P11.1: Put of more than the burst, %d bytes in the bucket: %v", left, ok)
		}
		if l, _ := p.do(t, call{out, 0}); len(l) != 0 || p.q.Bucket().Level() != left {
			t.Errorf("P11.1: Go, %d bytes in the bucket: %v", left, sizes(l))
		}
		p.do(t, call{rate, 1})
		p.do(t, call{tick, top})
		if l, _ := p.do(t, call{out, 0}); len(l) != 1 || p.q.Bucket().Level() != 0 {
			t.Errorf("P11.1: Go of a full bucket: %v", sizes(l))
		}
	}
}

func TestPutOfAFullQueue(t *testing.T) {
	for _, n := range []int64{0, 1, 72} {
		p := pair(t, 100, 100, call{ownTake, 100})
		for i := range 3 * room {
			want := i < room
			if _, ok := p.do(t, call{put, n}); ok != want || p.q.Len() != min(i+1, room) || p.q.Cut() != max(i+1-room, 0) {
				t.Fatalf("P11.1: Put of %d bytes when %d wait: %v, Len %d, Cut %d", n, min(i, room), ok, p.q.Len(), p.q.Cut())
			}
		}
		p.do(t, call{put, 73}) // too great too: one more all the same
		if p.q.Cut() != 2*room+1 || p.q.Len() != room {
			t.Errorf("P11.1: Put of too much when MaxQueue wait: Len %d, Cut %d", p.q.Len(), p.q.Cut())
		}
		p.do(t, call{out, 0})
		p.do(t, call{put, n}) // nothing went
		if p.q.Cut() != 2*room+2 || p.q.Len() != room {
			t.Errorf("P11.1: Put behind a Go of nothing: Len %d, Cut %d", p.q.Len(), p.q.Cut())
		}
		p.do(t, call{tick, 10000 * (n + over)}) // just so that one goes
		if l, _ := p.do(t, call{out, 0}); len(l) != 1 || p.q.Len() != room-1 {
			t.Fatalf("P11.1: Go of a full queue: %v, Len %d", sizes(l), p.q.Len())
		}
		p.do(t, call{put, 73}) // refused: the place stays free
		if _, ok := p.do(t, call{put, n}); !ok || p.q.Len() != room {
			t.Errorf("P11.1: Put when MaxQueue - 1 wait: %v, Len %d", ok, p.q.Len())
		}
		if _, ok := p.do(t, call{put, n}); ok {
			t.Error("P11.1: Put when MaxQueue wait again: true")
		}
		p.drain(t)
	}
}

func TestGo(t *testing.T) {
	for _, c := range []struct {
		burst, left int64
		puts, want  []int64
		level       int64
	}{
		{100, 100, nil, nil, 100}, {100, 0, nil, nil, 0}, {0, 0, nil, nil, 0}, // empty ones
		{100, 28, []int64{0}, []int64{0}, 0}, {100, 27, []int64{0}, nil, 27}, {100, 29, []int64{1}, []int64{1}, 0}, {100, 28, []int64{1}, nil, 28}, {100, 30, []int64{1}, []int64{1}, 1},
		{100, 100, []int64{72}, []int64{72}, 0}, {100, 99, []int64{72}, nil, 99}, {100, 72, []int64{72}, nil, 72}, {100, 0, []int64{72}, nil, 0},
		{100, 28, []int64{0, 0}, []int64{0}, 0}, {100, 55, []int64{0, 0}, []int64{0}, 27}, {100, 56, []int64{0, 0}, []int64{0, 0}, 0},
		{100, 99, []int64{72, 0, 1}, nil, 99}, {100, 28, []int64{1, 0, 0}, nil, 28}, // shorter ones behind the first might go, but wait
		{100, 98, []int64{2, 50, 3}, []int64{2}, 68}, {100, 100, []int64{2, 43, 0}, []int64{2}, 70}, {100, 100, []int64{2, 42, 0}, []int64{2, 42}, 0}, {200, 200, []int64{2, 42, 72, 0, 1}, []int64{2, 42, 72}, 0}, {200, 199, []int64{2, 42, 72, 0, 1}, []int64{2, 42}, 99},
		{1528, 1528, []int64{1500, 0}, []int64{1500}, 0}, {1528, 1527, []int64{1500, 0}, nil, 1527}, {1556, 1556, []int64{1500, 0}, []int64{1500, 0}, 0}, {1556, 1556, []int64{0, 1500}, []int64{0, 1500}, 0}, {1556, 1555, []int64{0, 1500, 0}, []int64{0}, 1527},
		{448, 448, make([]int64, 16), make([]int64, 16), 0}, {448, 447, make([]int64, 16), make([]int64, 15), 27}, {448, 420, make([]int64, 16), make([]int64, 15), 0}, {most, most, make([]int64, 16), make([]int64, 16), most - 448},
	} {
		p := pair(t, 0, c.burst, call{ownTake, c.burst - c.left})
		for _, n := range c.puts {
			p.do(t, call{put, n})
		}
		l, _ := p.do(t, call{out, 0})
		if !slices.EqualFunc(l, c.want, func(b []byte, n int64) bool { return int64(len(b)) == n }) {
			t.Errorf("P11.1: New(0, %d), %d there, %v: Go %v, want %v", c.burst, c.left, c.puts, sizes(l), c.want)
		}
		if p.q.Len() != len(c.puts)-len(c.want) || p.q.Bucket().Level() != c.level || p.q.Cut() != 0 {
			t.Errorf("P11.1: New(0, %d), %d there, %v, Go: Len %d, Level %d, want %d", c.burst, c.left, c.puts, p.q.Len(), p.q.Bucket().Level(), c.level)
		}
		if l, _ := p.do(t, call{out, 0}); len(l) != 0 {
			t.Errorf("P11.1: New(0, %d), %d there, %v: the second Go %v", c.burst, c.left, c.puts, sizes(l))
		}
		p.drain(t)
	}
}

// TestTick goes through rates, bursts and times, each with each: what a datagram waits for comes with the time, and no sooner.
func TestTick(t *testing.T) {
	for _, speed := range edges() {
		for _, burst := range edges() {
			for _, us := range spans() {
				p := pair(t, speed, burst, call{put, 0}, call{put, 72}, call{put, 1}, call{put, 1500}, call{put, 3}, call{ownTake, held(burst).Int64()})
				for range 3 {
					p.do(t, call{tick, us})
					p.do(t, call{out, 0})
				}
			}
		}
	}
}

func TestTickToTheMicrosecond(t *testing.T) {
	for _, c := range []struct{ speed, n, us int64 }{
		{1000, 72, 100000}, {1000, 0, 28000}, {3, 72, 33333334}, {7, 1, 4142858}, {28, 0, million}, {million, 72, 100}, {999999, 72, 101}, {1000001, 72, 100}, {most, 72, 1}, {top, 72, 1}, {1, 72, 100 * million},
	} {
		for _, steps := range []int64{1, 2, 3, 7} {
			p := pair(t, c.speed, 100, call{ownTake, 100}, call{put, c.n}, call{put, 72})
			for i := range steps {
				p.do(t, call{tick, (c.us-1)*(i+1)/steps - (c.us-1)*i/steps})
				p.do(t, call{tick, -c.us})
				if l, _ := p.do(t, call{out, 0}); len(l) != 0 {
					t.Errorf("P11.1: New(%d, 100), empty: %d bytes go ahead of %d microseconds", c.speed, c.n, c.us)
				}
			}
			p.do(t, call{tick, 1})
			if l, _ := p.do(t, call{out, 0}); len(l) != 1 || len(l[0]) != int(c.n) {
				t.Errorf("P11.1: New(%d, 100), empty: %d bytes do not go in %d microseconds: %v", c.speed, c.n, c.us, sizes(l))
			}
		}
	}
}

// TestRate sets each rate behind each, while something waits.
func TestRate(t *testing.T) {
	for _, c := range []struct{ n, want int64 }{
		{bottom, 0}, {-1, 0}, {0, 0}, {1, 1}, {2, 2}, {1000, 1000}, {most - 1, most - 1}, {most, most}, {most + 1, most}, {1 << 41, most}, {top, most},
	} {
		q := pace.New(7, most)
		q.Bucket().Take(most)
		q.Rate(c.n)
		if q.Bucket().Level() != 0 || q.Bucket().Burst() != most || q.Len() != 0 || q.Cut() != 0 {
			t.Errorf("P11.1: Rate(%d) changes more than the rate", c.n)
		}
		if q.Tick(million); q.Bucket().Level() != c.want {
			t.Errorf("P11.1: Rate(%d): %d bytes in a second, want %d", c.n, q.Bucket().Level(), c.want)
		}
	}
	for _, first := range edges() {
		for _, second := range edges() {
			for _, burst := range []int64{28, 100, 1528, most} {
				p := pair(t, first, burst, call{put, 0}, call{put, 72}, call{ownTake, burst}, call{tick, 7})
				p.do(t, call{rate, second})
				p.do(t, call{out, 0})
				p.do(t, call{tick, 5})
				p.do(t, call{out, 0})
				p.do(t, call{rate, first})
				p.do(t, call{tick, 1 << 24})
				p.do(t, call{out, 0})
				p.drain(t)
			}
		}
	}
}

// TestBucketIsItsOwn holds that what is done to the bucket that is answered tells of what goes, and the other way.
func TestBucketIsItsOwn(t *testing.T) {
	q := pace.New(1000, 200)
	b := q.Bucket()
	q.Put(make([]byte, 72))
	q.Put(make([]byte, 22))
	if q.Bucket() != b || b.Level() != 200 || b.Burst() != 200 {
		t.Error("P11.1: Bucket: not the queue's own")
	}
	b.Take(101)
	if l := q.Go(); len(l) != 0 || q.Bucket() != b || b.Level() != 99 {
		t.Errorf("P11.1: Take from Bucket: Go %v", sizes(l))
	}
	b.Tick(1000)
	if l := q.Go(); len(l) != 1 || b.Level() != 0 || q.Bucket() != b {
		t.Errorf("P11.1: Tick of Bucket: Go %v", sizes(l))
	}
	b.Rate(50)
	q.Tick(million)
	if l := q.Go(); len(l) != 1 || len(l[0]) != 22 || b.Level() != 0 || q.Bucket() != b {
		t.Errorf("P11.1: Rate of Bucket: Go %v", sizes(l))
	}
	q.Rate(30)
	q.Tick(million)
	if b.Level() != 30 || b.Wait(31) != 33334 || q.Bucket() != b {
		t.Errorf("P11.1: Rate, Tick: the bucket's Level %d, Wait %d", b.Level(), b.Wait(31))
	}
}

// TestRefusedChangesNothing holds, beside a false, all but Cut against a queue that has not had the call.
func TestRefusedChangesNothing(t *testing.T) {
	for _, waiting := range []int{0, 1, room - 1, room} {
		a, b := pace.New(50, 600), pace.New(50, 600)
		for i := range waiting {
			a.Put(datagram(int64(i), i))
			b.Put(datagram(int64(i), i))
		}
		for _, n := range []int64{573, 600, 2000} {
			a.Put(datagram(n, 99))
		}
		if a.Len() != waiting || b.Len() != waiting || a.Cut() != 3 || b.Cut() != 0 || a.Bucket().Level() != b.Bucket().Level() {
			t.Errorf("R3: Len %d, %d, Cut %d, %d, Level %d, %d", a.Len(), b.Len(), a.Cut(), b.Cut(), a.Bucket().Level(), b.Bucket().Level())
		}
		for range 20 {
			a.Tick(million)
			b.Tick(million)
			if x, y := a.Go(), b.Go(); !same(x, y) || a.Len() != b.Len() || a.Bucket().Level() != b.Bucket().Level() {
				t.Errorf("R3: %d wait: Go %v, %v", waiting, sizes(x), sizes(y))
			}
		}
	}
}

// roomy answers a list of n bytes with spare room behind it, and the whole of its memory.
func roomy(n int64, number int) (b, whole []byte) {
	whole = append(datagram(n, number), datagram(40, number+7)...)
	return whole[:n], whole
}

// fill writes over all of a list, its spare room too.
func fill(b []byte) {
	b = b[:cap(b)]
	for i := range b {
		b[i] = 0x55
	}
}

// fillAll writes over all lists, and then over the list of them, its spare room too.
func fillAll(l [][]byte) {
	for _, b := range l {
		fill(b)
	}
	l = l[:cap(l)]
	for i := range l {
		l[i] = []byte("none of these")
	}
}

// rows answers what is put in the tests of memory: rows of all lengths that a small allocation may have, and longer ones.
func rows() []int64 {
	return []int64{0, 1, 2, 7, 8, 9, 15, 16, 17, 33, 1500, 0, 1, 3, 5, 31}
}

func TestPutKeepsNothing(t *testing.T) {
	for _, again := range []bool{false, true} {
		q := pace.New(0, most)
		var want [][]byte
		for i, n := range rows() {
			b, whole := roomy(n, i)
			before := bytes.Clone(whole)
			q.Put(b)
			if !bytes.Equal(whole, before) {
				t.Errorf("R2: Put of %d bytes changes what it was handed, or behind it", n)
			}
			want = append(want, bytes.Clone(b))
			fill(whole)
			if again { // one list for all: each Put has the bytes of then
				copy(whole, datagram(n, i))
			}
		}
		if l := q.Go(); !same(l, want) {
			t.Errorf("R2: Put keeps what it was handed: %q", l)
		}
	}
	q := pace.New(0, 100)
	b, whole := roomy(73, 5)
	before := bytes.Clone(whole)
	if q.Put(b) || !bytes.Equal(whole, before) {
		t.Error("R2: Put that is refused changes what it was handed")
	}
}

func TestGoMakesAnew(t *testing.T) {
	for first := range len(rows()) + 1 {
		q := pace.New(0, most)
		var handed, want [][]byte
		total := int64(0)
		for i, n := range rows() {
			_, whole := roomy(n, i)
			handed = append(handed, whole)
			want = append(want, datagram(n, i))
			q.Put(whole[:n])
			if i < first {
				total += n + over
			}
		}
		q.Bucket().Take(most - total)
		l := q.Go()
		if !same(l, want[:first]) || q.Len() != room-first {
			t.Fatalf("P11.1: Go of %d: %v", first, sizes(l))
		}
		for i := range l {
			fill(l[i])
			l[i] = bytes.Clone(want[i])
			if !same(l, want[:first]) {
				t.Errorf("R2: Go of %d: row %d shares memory with another one", first, i)
			}
		}
		fillAll(l)
		for i, whole := range handed {
			if n := rows()[i]; !bytes.Equal(whole[:n], want[i]) || !bytes.Equal(whole[n:], datagram(40, i+7)) {
				t.Errorf("R2: Go of %d: row %d shares what was handed to Put", first, i)
			}
		}
		q.Rate(most)
		q.Tick(top)
		if l := q.Go(); !same(l, want[first:]) {
			t.Errorf("R2: Go of %d shares memory with what waits: %q", first, l)
		}
	}
}

// TestGoStaysAsAnswered holds that no later call writes over what Go answered.
func TestGoStaysAsAnswered(t *testing.T) {
	q := pace.New(million, 3000)
	var kept, want [][][]byte
	for i := range 40 {
		for k := range i % 9 {
			q.Put(datagram(int64(7*k+i), 100*i+k))
		}
		q.Tick(int64(37 * i))
		l := q.Go()
		kept = append(kept, l)
		var copied [][]byte
		for _, b := range l {
			copied = append(copied, bytes.Clone(b))
		}
		want = append(want, copied)
	}
	for i := range kept {
		if !same(kept[i], want[i]) {
			t.Errorf("R2: the answer of Go %d is written over", i)
		}
	}
	q.Tick(top)
	q.Go()
	for i := range 5 { // and no Go writes over spare room of another's answer
		q.Put(datagram(9, i))
	}
	a := q.Go()
	fillAll(a)
	q.Tick(top)
	q.Put(datagram(9, 77))
	if b := q.Go(); !same(b, [][]byte{datagram(9, 77)}) {
		t.Errorf("R2: Go of another time: %q", b)
	}
	for _, b := range a[:cap(a)] {
		if string(b) != "none of these" {
			t.Errorf("R2: a later call writes over the answer: %q", b)
		}
	}
}

// TestNoBytes holds that nil and an empty list are one, and that what lies behind a list's length is not put.
func TestNoBytes(t *testing.T) {
	for _, b := range [][]byte{nil, {}, make([]byte, 0, 50), []byte("abc")[:0]} {
		q := pace.New(0, 28)
		if !q.Put(b) || q.Len() != 1 || q.Cut() != 0 {
			t.Errorf("R4: Put of no bytes: Len %d, Cut %d", q.Len(), q.Cut())
		}
		if l := q.Go(); len(l) != 1 || len(l[0]) != 0 || q.Bucket().Level() != 0 {
			t.Errorf("R4: Put of no bytes, Go: %q", l)
		}
		if q = pace.New(0, 27); q.Put(b) || q.Len() != 0 || q.Cut() != 1 {
			t.Errorf("R4: Put of no bytes, burst 27: Len %d, Cut %d", q.Len(), q.Cut())
		}
	}
	q := pace.New(0, 100)
	b, _ := roomy(72, 1)
	if !q.Put(b) {
		t.Error("R5: Put counts the spare room")
	}
	if l := q.Go(); !same(l, [][]byte{datagram(72, 1)}) {
		t.Errorf("R5: Put reads the spare room: %q", l)
	}
}

// TestApart works on two at a time: neither tells of the other.
func TestApart(t *testing.T) {
	a, b := pair(t, 5000, 700), pair(t, 70000, 1528)
	for i := range int64(300) {
		a.do(t, call{put, 37 * i % 800})
		b.do(t, call{put, 113 * i % 1600})
		a.do(t, call{tick, 70000 * i % 90001})
		a.do(t, call{out, 0})
		b.do(t, call{rate, 3100 * i % 100009})
		b.do(t, call{tick, 1300 * i % 50003})
		b.do(t, call{out, 0})
		a.hold(t)
		b.hold(t)
	}
}

// went is what one Go answered at a time, in bytes with each one's Overhead.
type went struct {
	at, n int64
}

// holdStretches holds what went in each stretch of time against the burst, and the rate times it, rounded up.
func holdStretches(t *testing.T, speed, burst int64, l []went) {
	t.Helper()
	for i := range l {
		all := num(0)
		for j := i; j < len(l); j++ {
			all = sum(all, num(l[j].n))
			brought := times(held(speed), num(l[j].at-l[i].at))
			if bound := sum(held(burst), up(brought, num(million))); all.Cmp(bound) > 0 {
				t.Fatalf("W1: rate %d, burst %d: %v bytes in %d microseconds, at most %v", speed, burst, all, l[j].at-l[i].at, bound)
			}
		}
	}
}

func pick(r *rand.Rand, l []int64) int64 { return l[r.Intn(len(l))] }

// drawSpeed answers a rate that lets some of a queue go in some milliseconds, or an edge now and then.
func drawSpeed(r *rand.Rand) int64 {
	if r.Intn(8) == 0 {
		return pick(r, edges())
	}
	return r.Int63n(1<<24) >> r.Intn(20)
}

func drawBurst(r *rand.Rand) int64 {
	if r.Intn(6) == 0 {
		return pick(r, edges())
	}
	return 20 + r.Int63n(6000)>>r.Intn(6)
}

// drawSize answers how long a datagram is, often about what just goes.
func drawSize(r *rand.Rand, q *pace.Queue) int64 {
	b := q.Bucket()
	n := r.Int63n(1600) >> r.Intn(11)
	switch r.Intn(8) {
	case 0:
		n = b.Burst() - over + int64(r.Intn(3)) - 1
	case 1:
		n = b.Level() - over + int64(r.Intn(3)) - 1
	}
	return min(max(n, 0), 10000)
}

// drawCall answers a call of the queue's own, but Rate.
func drawCall(r *rand.Rand, q *pace.Queue) call {
	switch r.Intn(11) {
	case 0, 1, 2, 3, 4:
		return call{put, drawSize(r, q)}
	case 5, 6:
		return call{out, 0}
	case 7:
		return call{tick, pick(r, []int64{bottom, -1, 0})}
	case 8: // just so long that a size goes, or a microsecond less
		return call{tick, min(q.Bucket().Wait(drawSize(r, q)+over)-int64(r.Intn(2)), 1<<24)}
	}
	return call{tick, r.Int63n(1<<20) >> r.Intn(21)}
}

// TestRowsOfMixedCalls makes rows of calls: all that was put has gone, waits or was cut, each once, in order, and in each stretch in which the rate stays no more goes than W1 says.
func TestRowsOfMixedCalls(t *testing.T) {
	r := rand.New(rand.NewSource(4))
	for range 500 {
		speed, burst := drawSpeed(r), drawBurst(r)
		p := pair(t, speed, burst)
		var accepted, gone [][]byte
		puts := 0
		for range 1 + r.Intn(4) {
			var l []went
			now := int64(0)
			for range 80 {
				c := drawCall(r, p.q)
				rows, ok := p.do(t, c)
				switch c.kind {
				case put:
					puts++
					if ok {
						accepted = append(accepted, datagram(c.n, len(p.calls)))
					}
				case tick:
					now += max(c.n, 0)
				case out:
					n := int64(0)
					for _, b := range rows {
						n += int64(len(b)) + over
					}
					l = append(l, went{now, n})
					gone = append(gone, rows...)
				}
				if len(gone)+p.q.Len()+p.q.Cut() != puts || !same(gone, accepted[:len(gone)]) {
					t.Fatalf("P11.1, W4: %d put, %d gone, %d wait, %d cut", puts, len(gone), p.q.Len(), p.q.Cut())
				}
			}
			holdStretches(t, speed, burst, l)
			speed = drawSpeed(r)
			p.do(t, call{rate, speed})
		}
		p.drain(t)
	}
}

// TestRowsOfSmallNumbers goes through all rows of a few calls.
func TestRowsOfSmallNumbers(t *testing.T) {
	calls := []call{{put, 0}, {put, 1}, {put, 2}, {out, 0}, {tick, 14000000}, {rate, 2}, {ownTake, 1}, {ownTick, 1000000}}
	for _, burst := range []int64{27, 28, 29, 57} {
		for row := range 1 << 15 {
			p := pair(t, 1, burst)
			for rest := row; rest > 0; rest >>= 3 {
				p.do(t, calls[rest&7])
			}
			p.do(t, call{out, 0})
		}
	}
}

// TestSameEachTime holds that a row of calls is answered alike each time, whatever lay between.
func TestSameEachTime(t *testing.T) {
	row := func() [][]byte {
		q := pace.New(3000, 400)
		var l [][]byte
		for i := range 60 {
			q.Put(datagram(int64(53*i%390), i))
			q.Tick(int64(9000 * i % 70001))
			l = append(l, q.Go()...)
		}
		return l
	}
	first := row()
	for range 5 {
		other := pace.New(1, 50)
		other.Put(make([]byte, 1000))
		other.Put(make([]byte, 3))
		if !same(row(), first) || len(first) == 0 {
			t.Fatal("R4: the same calls answer otherwise")
		}
	}
}

// TestLimits holds the numbers of this file against api's.
func TestLimits(t *testing.T) {
	if room != api.MaxQueue || over != api.Overhead {
		t.Error("P11.1: MaxQueue, Overhead")
	}
}
