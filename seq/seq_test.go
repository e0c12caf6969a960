package seq_test

import (
	"math"
	"math/big"
	"math/rand"
	"slices"
	"testing"

	"limelight/seq"
)

const (
	top    = math.MaxInt64
	bottom = math.MinInt64
	late   = 63 // how far below Last a number may still be seen
)

// next answers the number with those low bits next to last by the chapter's words, out of all that come near, in numbers of any size.
func next(last int64, n uint64, bits uint) int64 {
	if last < 0 {
		return int64(n)
	}
	round := new(big.Int).Lsh(big.NewInt(1), bits)
	at := big.NewInt(last)
	x := new(big.Int).Sub(at, new(big.Int).Mod(at, round))
	x.Add(x, new(big.Int).SetUint64(n))
	x.Sub(x, new(big.Int).Lsh(round, 1))
	var best, far *big.Int
	for range 5 {
		if x.Sign() >= 0 && x.IsInt64() {
			d := new(big.Int).Sub(x, at)
			d.Abs(d)
			if far == nil || d.Cmp(far) <= 0 { // they rise: of two as near the greater one
				best, far = new(big.Int).Set(x), d
			}
		}
		x.Add(x, round)
	}
	return best.Int64()
}

// edges answers the numbers at which the chapter's words turn, for a round of so many bits.
func edges(bits uint) []int64 {
	round := int64(1) << bits
	all := []int64{
		bottom, bottom + 1, -round - 1, -round, -round + 1, -round / 2, -2, -1,
		0, 1, 2, 5, 62, 63, 64, 65, 100, 1000000007, 1 << 40, 1<<40 + 90000, 1<<62 + 12345,
		top, top - 1, top - 2, top - 100,
	}
	for _, k := range []int64{1, 2, 3, 1000, 1 << 20} {
		for d := int64(-2); d <= 2; d++ {
			all = append(all, k*round+d, k*round+round/2+d)
		}
	}
	for d := int64(-2); d <= 2; d++ {
		all = append(all, round/2+d, top-round/2+d, top-round+d, top-round-round/2+d)
	}
	return all
}

// lows answers the low bits at which something turns with last: the least, the greatest, last's own, half a round from it.
func lows(last int64, bits uint) []uint64 {
	mask := uint64(1)<<bits - 1
	half := uint64(1) << (bits - 1)
	var all []uint64
	for d := uint64(0); d < 4; d++ {
		for _, n := range []uint64{0, half, uint64(last), uint64(last) + half, uint64(last) + half/2} {
			all = append(all, (n+d)&mask, (n-d)&mask)
		}
	}
	return all
}

func TestExtend(t *testing.T) {
	for _, c := range []struct {
		last int64
		n    uint16
		want int64
	}{
		{65535, 0, 65536}, // the chapter's run
		// last below 0: n itself
		{-1, 0, 0}, {-1, 7, 7}, {-1, 32767, 32767}, {-1, 32768, 32768}, {-1, 65535, 65535},
		{-2, 65535, 65535}, {-65536, 1, 1}, {-40000, 65535, 65535},
		{bottom, 0, 0}, {bottom, 9, 9}, {bottom, 65535, 65535}, {bottom + 1, 40000, 40000},
		// near 0 the nearest one would be below 0: then n
		{0, 0, 0}, {0, 1, 1}, {0, 32767, 32767}, {0, 32768, 32768}, {0, 32769, 32769}, {0, 65535, 65535},
		{5, 32773, 32773}, {5, 32774, 32774}, {5, 65535, 65535}, {5, 0, 0},
		{32767, 65535, 65535}, {32767, 0, 0}, {32768, 0, 65536}, {32769, 0, 65536}, {32769, 1, 65537}, {32769, 2, 2},
		// just below and above a whole round
		{65534, 65535, 65535}, {65535, 65535, 65535}, {65535, 1, 65537}, {65535, 32767, 98303}, {65535, 32768, 32768},
		{65536, 65535, 65535}, {65536, 0, 65536}, {65536, 32768, 98304}, {65536, 32769, 32769}, {65537, 65535, 65535},
		{131071, 0, 131072}, {131072, 65535, 131071}, {131073, 65535, 131071},
		// half a round ahead: one less, just half, one more
		{100000, 1695, 132767}, {100000, 1696, 132768}, {100000, 1697, 67233},
		// half a round behind: one less, just half, one more
		{132768, 34465, 100001}, {132768, 34464, 165536}, {132768, 34463, 165535},
		{1 << 40, 32767, 1<<40 + 32767}, {1 << 40, 32768, 1<<40 + 32768}, {1 << 40, 32769, 1<<40 - 32767},
		// near 2^63 - 1 the nearest one would be above: then the one below
		{top, 65535, top}, {top, 65534, top - 1}, {top, 0, top - 65535}, {top, 1, top - 65534}, {top, 32767, top - 32768}, {top, 32766, top - 32769},
		{top - 1, 65535, top}, {top - 32768, 0, top - 65535}, {top - 32767, 0, top - 65535}, {top - 32768, 65535, top}, {top - 65535, 65535, top - 65536},
	} {
		if got := seq.Extend(c.last, c.n); got != c.want {
			t.Errorf("P15.1: Extend(%d, %d): %d, want %d", c.last, c.n, got, c.want)
		}
	}
}

func TestStamp(t *testing.T) {
	const round, half = int64(1) << 32, int64(1) << 31
	for _, c := range []struct {
		last int64
		n    uint32
		want int64
	}{
		{-1, 0, 0}, {-1, 7, 7}, {-1, 1 << 31, half}, {-1, math.MaxUint32, round - 1},
		{-round, 3, 3}, {bottom, 0, 0}, {bottom, math.MaxUint32, round - 1},
		{0, 0, 0}, {0, 1 << 31, half}, {0, 1<<31 + 1, half + 1}, {0, math.MaxUint32, round - 1}, {5, math.MaxUint32, round - 1},
		{half - 1, math.MaxUint32, round - 1}, {half - 1, 0, 0}, {half, 0, round}, {half + 1, 1, round + 1}, {half + 1, 2, 2},
		{65535, 0, 0}, {65535, 65536, 65536}, {65536, 65535, 65535}, // 16 bits are no whole round here
		{round - 1, 0, round}, {round - 1, math.MaxUint32, round - 1}, {round - 1, 1<<31 - 1, round + half - 1}, {round - 1, 1 << 31, half},
		{round, math.MaxUint32, round - 1}, {round, 0, round}, {round, 1 << 31, round + half}, {round, 1<<31 + 1, half + 1},
		{2 * round, 1<<31 - 1, 2*round + half - 1}, {2 * round, 1 << 31, 2*round + half}, {2 * round, 1<<31 + 1, round + half + 1},
		{2*round + half, 1, 2*round + 1}, {2*round + half, 0, 3 * round}, {2*round + half, math.MaxUint32, 3*round - 1},
		{1 << 40, 90000, 1<<40 + 90000},
		{top, math.MaxUint32, top}, {top, 0, top - (round - 1)}, {top, 1<<31 - 1, top - half}, {top, 1<<31 - 2, top - half - 1},
		{top - half, 0, top - (round - 1)}, {top - half, math.MaxUint32, top}, {top - 1, math.MaxUint32, top},
	} {
		if got := seq.Stamp(c.last, c.n); got != c.want {
			t.Errorf("P15.1: Stamp(%d, %d): %d, want %d", c.last, c.n, got, c.want)
		}
	}
}

// TestNearest: Extend and Stamp are what the chapter's words ask, at each edge with each, and asked twice too.
func TestNearest(t *testing.T) {
	for _, last := range append(edges(16), edges(32)...) {
		for _, low := range append(lows(last, 16), 0, 1, 32767, 32768, 32769, 65534, 65535) {
			n := uint16(low)
			got, want := seq.Extend(last, n), next(last, uint64(n), 16)
			if got != want {
				t.Errorf("P15.1: Extend(%d, %d): %d, want %d", last, n, got, want)
			}
			if seq.Extend(last, n) != got {
				t.Errorf("R4: Extend(%d, %d), asked twice", last, n)
			}
		}
		for _, low := range append(lows(last, 32), 0, 1, 65535, 65536, 1<<31, 1<<32-2, 1<<32-1) {
			n := uint32(low)
			got, want := seq.Stamp(last, n), next(last, uint64(n), 32)
			if got != want {
				t.Errorf("P15.1: Stamp(%d, %d): %d, want %d", last, n, got, want)
			}
			if seq.Stamp(last, n) != got {
				t.Errorf("R4: Stamp(%d, %d), asked twice", last, n)
			}
		}
	}
}

// TestEachLow: of each n there is, the answer ends in it, and no other one that ends in it is nearer.
func TestEachLow(t *testing.T) {
	for _, last := range []int64{bottom, -1, 0, 32767, 32768, 65535, 65536, 100000, 1 << 40, top - 65536, top - 32768, top - 32767, top} {
		for n := range 1 << 16 {
			if got, want := seq.Extend(last, uint16(n)), next(last, uint64(n), 16); got != want {
				t.Fatalf("P15.1: Extend(%d, %d): %d, want %d", last, n, got, want)
			}
		}
	}
}

func TestNearestAny(t *testing.T) {
	r := rand.New(rand.NewSource(1))
	for range 100000 {
		last := int64(r.Uint64()) >> r.Intn(64)
		n := r.Uint32() >> r.Intn(32)
		if got, want := seq.Extend(last, uint16(n)), next(last, uint64(uint16(n)), 16); got != want {
			t.Fatalf("P15.1: Extend(%d, %d): %d, want %d", last, uint16(n), got, want)
		}
		if got, want := seq.Stamp(last, n), next(last, uint64(n), 32); got != want {
			t.Fatalf("P15.1: Stamp(%d, %d): %d, want %d", last, n, got, want)
		}
	}
}

// TestRises: numbers that each go on by less than half a round rise as they went, with what is above their few bits (W4).
func TestRises(t *testing.T) {
	r := rand.New(rand.NewSource(2))
	number, stamp := int64(r.Intn(1<<16)), int64(r.Uint32())
	atNumber, atStamp := seq.Extend(-1, uint16(number)), seq.Stamp(-1, uint32(stamp))
	for range 20000 {
		if atNumber >= 1<<15 { // before that, a number behind is told from one ahead by nothing
			number += int64(r.Intn(1 << 15))
		} else {
			number++
		}
		stamp += int64(r.Intn(1 << 31))
		atNumber, atStamp = seq.Extend(atNumber, uint16(number)), seq.Stamp(atStamp, uint32(stamp))
		if atNumber != number || atStamp != stamp {
			t.Fatalf("W4: %d, %d, want %d, %d", atNumber, atStamp, number, stamp)
		}
	}
}

// told is a Seen by the chapter's words: all that were seen, as they came.
type told struct {
	all []int64
}

func (m *told) last() int64 {
	if len(m.all) == 0 {
		return -1
	}
	return slices.Max(m.all)
}

func (m *told) add(n uint16) (int64, bool) {
	last := m.last()
	x := next(last, uint64(n), 16)
	near := len(m.all) == 0 || x > last || x < last && last-x <= late
	if !near || slices.Contains(m.all, x) {
		return x, false
	}
	m.all = append(m.all, x)
	return x, true
}

func (m *told) lost() int64 {
	if len(m.all) == 0 {
		return 0
	}
	lost := m.last() - m.all[0] + 1
	for _, x := range m.all {
		if x >= m.all[0] {
			lost--
		}
	}
	return lost
}

// row gives one after the other to a new Seen and to the chapter's words, and holds all that they answer against each other.
func row(t *testing.T, all []uint16) {
	t.Helper()
	s, m := seq.New(), &told{}
	for i, n := range all {
		x, ok := s.Add(n)
		wantX, want := m.add(n)
		if x != wantX || ok != want || s.Last() != m.last() || s.Lost() != m.lost() {
			t.Fatalf("P15.2: %v, after %d: %d, %v, Last %d, Lost %d, want %d, %v, %d, %d",
				all[:i+1], n, x, ok, s.Last(), s.Lost(), wantX, want, m.last(), m.lost())
		}
	}
}

// step is an Add, what it answers, and what Last and Lost are then.
type step struct {
	n          uint16
	x          int64
	ok         bool
	last, lost int64
}

func walk(t *testing.T, name string, all []step) {
	t.Helper()
	s := seq.New()
	for i, c := range all {
		x, ok := s.Add(c.n)
		if got := (step{c.n, x, ok, s.Last(), s.Lost()}); got != c {
			t.Fatalf("P15.2: %s, step %d: %v, want %v", name, i, got, c)
		}
	}
}

func TestNew(t *testing.T) {
	for range 2 {
		s := seq.New()
		for range 3 {
			if s.Last() != -1 || s.Lost() != 0 {
				t.Errorf("P15.2: a new one: Last %d, Lost %d", s.Last(), s.Lost())
			}
		}
	}
}

// TestFirst: the first number is seen whatever it is, and none is lost with it.
func TestFirst(t *testing.T) {
	for n := range 1 << 16 {
		s := seq.New()
		x, ok := s.Add(uint16(n))
		if x != int64(n) || !ok || s.Last() != int64(n) || s.Lost() != 0 {
			t.Fatalf("P15.2: first %d: %d, %v, Last %d, Lost %d", n, x, ok, s.Last(), s.Lost())
		}
		if x, ok = s.Add(uint16(n)); x != int64(n) || ok || s.Last() != int64(n) || s.Lost() != 0 {
			t.Fatalf("P15.2: %d twice: %d, %v, Last %d, Lost %d", n, x, ok, s.Last(), s.Lost())
		}
	}
}

func TestSteps(t *testing.T) {
	walk(t, "the next one", []step{{40, 40, true, 40, 0}, {41, 41, true, 41, 0}, {42, 42, true, 42, 0}, {41, 41, false, 42, 0}, {40, 40, false, 42, 0}})
	walk(t, "skips a few", []step{{40, 40, true, 40, 0}, {44, 44, true, 44, 3}, {46, 46, true, 46, 4}, {45, 45, true, 46, 3}, {41, 41, true, 46, 2}, {41, 41, false, 46, 2}})
	walk(t, "skips to 63", []step{{100, 100, true, 100, 0}, {163, 163, true, 163, 62}, {100, 100, false, 163, 62}, {101, 101, true, 163, 61}})
	walk(t, "skips to 64", []step{{100, 100, true, 100, 0}, {164, 164, true, 164, 63}, {100, 100, false, 164, 63}, {101, 101, true, 164, 62}})
	walk(t, "skips to 65", []step{{100, 100, true, 100, 0}, {165, 165, true, 165, 64}, {101, 101, false, 165, 64}, {102, 102, true, 165, 63}})
	walk(t, "skips many", []step{{100, 100, true, 100, 0}, {30100, 30100, true, 30100, 29999}, {30037, 30037, true, 30100, 29998}, {30036, 30036, false, 30100, 29998}, {100, 100, false, 30100, 29998}})
	walk(t, "skips very many", []step{{0, 0, true, 0, 0}, {65535, 65535, true, 65535, 65534}, {65472, 65472, true, 65535, 65533}, {65471, 65471, false, 65535, 65533}})
	walk(t, "passed over by 1", []step{{9, 9, true, 9, 0}, {11, 11, true, 11, 1}, {10, 10, true, 11, 0}, {10, 10, false, 11, 0}})
	walk(t, "passed over by 62", []step{{9, 9, true, 9, 0}, {72, 72, true, 72, 62}, {10, 10, true, 72, 61}})
	walk(t, "passed over by 63", []step{{9, 9, true, 9, 0}, {73, 73, true, 73, 63}, {10, 10, true, 73, 62}, {10, 10, false, 73, 62}})
	walk(t, "passed over by 64", []step{{9, 9, true, 9, 0}, {74, 74, true, 74, 64}, {10, 10, false, 74, 64}, {11, 11, true, 74, 63}})
	walk(t, "passed over by more", []step{{9, 9, true, 9, 0}, {75, 75, true, 75, 65}, {10, 10, false, 75, 65}, {10, 10, false, 75, 65}})
	walk(t, "seen, late", []step{{9, 9, true, 9, 0}, {10, 10, true, 10, 0}, {73, 73, true, 73, 62}, {10, 10, false, 73, 62}, {9, 9, false, 73, 62}, {74, 74, true, 74, 62}, {10, 10, false, 74, 62}})
	walk(t, "filled in time, then too late", []step{{1, 1, true, 1, 0}, {4, 4, true, 4, 2}, {66, 66, true, 66, 63}, {3, 3, true, 66, 62}, {2, 2, false, 66, 62}, {67, 67, true, 67, 62}, {5, 5, true, 67, 61}})
	walk(t, "below the first", []step{
		{500, 500, true, 500, 0}, {499, 499, true, 500, 0}, {499, 499, false, 500, 0}, {437, 437, true, 500, 0}, {436, 436, false, 500, 0},
		{502, 502, true, 502, 1}, {438, 438, false, 502, 1}, {439, 439, true, 502, 1}, {501, 501, true, 502, 0},
	})
	walk(t, "the first is passed by what is below it", []step{{64, 64, true, 64, 0}, {1, 1, true, 64, 0}, {0, 0, false, 64, 0}, {65, 65, true, 65, 0}})
	walk(t, "no number is below 0", []step{{0, 0, true, 0, 0}, {65535, 65535, true, 65535, 65534}})
	walk(t, "over a round", []step{
		{65535, 65535, true, 65535, 0}, {0, 65536, true, 65536, 0}, {65535, 65535, false, 65536, 0},
		{3, 65539, true, 65539, 2}, {65534, 65534, true, 65539, 2}, {2, 65538, true, 65539, 1},
		{62, 65598, true, 65598, 59}, {65535, 65535, false, 65598, 59}, {65534, 65534, false, 65598, 59},
	})
	walk(t, "half a round", []step{
		{40000, 40000, true, 40000, 0}, {7232, 72768, true, 72768, 32767}, {40001, 40001, false, 72768, 32767}, {40000, 105536, true, 105536, 65534},
	})
	walk(t, "the same low bits, a round on", []step{
		{7, 7, true, 7, 0}, {32768, 32768, true, 32768, 32760}, {65535, 65535, true, 65535, 65526}, {7, 65543, true, 65543, 65533}, {7, 65543, false, 65543, 65533},
	})
}

// TestShort: all rows of five out of numbers that lie at the edges of one another.
func TestShort(t *testing.T) {
	few := []uint16{0, 1, 62, 63, 64, 65, 128, 32768, 65472, 65535}
	all := make([]uint16, 5)
	for k := range len(few) * len(few) * len(few) * len(few) * len(few) {
		for i := range all {
			all[i] = few[k%len(few)]
			k /= len(few)
		}
		row(t, all)
	}
}

// TestApart: each number below Last, by each distance, seen or not.
func TestApart(t *testing.T) {
	for _, first := range []uint16{0, 1, 63, 64, 65, 1000, 32767, 32768, 65471, 65472, 65535} {
		for d := range uint16(130) {
			for back := range uint16(70) {
				row(t, []uint16{first, first + d, first + d - back, first + d - back, first + d + 1, first + d - back})
			}
		}
	}
}

// TestMask: the last 64 are told one by one, whichever of them came.
func TestMask(t *testing.T) {
	r := rand.New(rand.NewSource(3))
	for range 500 {
		bits := r.Uint64()
		if r.Intn(8) == 0 {
			bits = []uint64{0, math.MaxUint64, 1, 1 << 63, 1<<63 - 1}[r.Intn(5)]
		}
		at := uint16(r.Intn(1 << 16))
		all := []uint16{at}
		for i := range uint16(64) {
			if bits>>i&1 == 1 {
				all = append(all, at+1+i)
			}
		}
		for i := range uint16(66) {
			all = append(all, at+i)
		}
		row(t, all)
	}
}

// TestRound: round and round 2^16, ahead by each of these steps, and behind.
func TestRound(t *testing.T) {
	for _, by := range []uint16{1, 2, 62, 63, 64, 65, 1000, 32766, 32767, 32768, 32769, 65000, 65472, 65473, 65474, 65534} {
		s := seq.New()
		last, first, seen := int64(-1), int64(-1), map[int64]int{}
		at := uint16(12345)
		for i := range 3 << 16 {
			x, ok := s.Add(at)
			want := next(last, uint64(at), 16)
			fresh := last < 0 || want > last || last-want <= late && seen[want] == 0
			if x != want || ok != fresh {
				t.Fatalf("P15.2: by %d, step %d: %d, %v, want %d, %v", by, i, x, ok, want, fresh)
			}
			if last < 0 {
				first = want
			}
			if fresh {
				seen[want]++
				last = max(last, want)
			}
			if s.Last() != last {
				t.Fatalf("P15.2: by %d, step %d: Last %d, want %d", by, i, s.Last(), last)
			}
			at += by
		}
		lost := last - first + 1
		for x := range seen {
			if x >= first {
				lost--
			}
		}
		if s.Lost() != lost {
			t.Errorf("P15.2: by %d: Lost %d, want %d", by, s.Lost(), lost)
		}
	}
}

// TestNoGap: of rows without a gap none is lost, in order, or with neighbours turned.
func TestNoGap(t *testing.T) {
	for _, turn := range []int{1, 2, 5, 63, 64} {
		s := seq.New()
		s.Add(65000)
		for from := 65001; from < 65001+turn*3000; from += turn {
			for i := range turn {
				x := int64(from + turn - 1 - i)
				got, ok := s.Add(uint16(x))
				if got != x || !ok || s.Last() != int64(from+turn-1) || s.Lost() != int64(turn-1-i) {
					t.Fatalf("P15.2: turned by %d: %d: %d, %v, Last %d, Lost %d", turn, x, got, ok, s.Last(), s.Lost())
				}
			}
		}
	}
}

func TestAny(t *testing.T) {
	for run := range 600 {
		r := rand.New(rand.NewSource(int64(run)))
		wide := []int{3, 20, 70, 130, 70, 400, 40000, 65536}[run%8]
		at := uint16(r.Intn(1 << 16))
		var all []uint16
		for range 200 {
			all = append(all, at)
			next := at + uint16(r.Intn(wide)) - uint16(r.Intn(wide))
			if r.Intn(3) == 0 { // it goes on
				next = at + uint16(r.Intn(wide/2+1))
			}
			at = next
		}
		row(t, all)
	}
}

// TestRisesOnce: no number is seen twice, and Last never falls (W4).
func TestRisesOnce(t *testing.T) {
	r := rand.New(rand.NewSource(4))
	for range 100 {
		s, seen, last := seq.New(), map[int64]int{}, int64(-1)
		at := int64(r.Intn(1 << 16))
		for range 1000 {
			x, ok := s.Add(uint16(at))
			if ok {
				seen[x]++
			}
			if seen[x] > 1 || s.Last() < last || ok && s.Last() < x {
				t.Fatalf("W4: %d: seen %d times, Last %d, before %d", x, seen[x], s.Last(), last)
			}
			last = s.Last()
			at += int64(r.Intn(12) - 4)
		}
	}
}

// TestApartObjects: of two that are made, what is added to one turns no other.
func TestApartObjects(t *testing.T) {
	r := rand.New(rand.NewSource(5))
	for range 100 {
		a, b, c := seq.New(), seq.New(), seq.New()
		one, two := &told{}, &told{}
		for range 60 {
			s, m, at := a, one, uint16(100+r.Intn(90))
			if r.Intn(2) == 0 {
				s, m, at = b, two, uint16(65500+r.Intn(90))
			}
			x, ok := s.Add(at)
			if wantX, want := m.add(at); x != wantX || ok != want {
				t.Fatalf("R2: Add(%d): %d, %v, want %d, %v", at, x, ok, wantX, want)
			}
			if a.Last() != one.last() || a.Lost() != one.lost() || b.Last() != two.last() || b.Lost() != two.lost() {
				t.Fatalf("R2: %d, %d and %d, %d", a.Last(), a.Lost(), b.Last(), b.Lost())
			}
			if c.Last() != -1 || c.Lost() != 0 {
				t.Fatalf("R2: one to which nothing was added: %d, %d", c.Last(), c.Lost())
			}
		}
	}
}

// TestRefused: an Add that answers false has changed nothing that any call can tell later, and asking changes nothing.
func TestRefused(t *testing.T) {
	r := rand.New(rand.NewSource(6))
	for range 300 {
		a, b := seq.New(), seq.New()
		at := uint16(r.Intn(1 << 16))
		for range 150 {
			x, ok := a.Add(at)
			for range r.Intn(3) {
				a.Last()
				a.Lost()
			}
			if ok { // b is told only what is seen
				if got, same := b.Add(at); got != x || !same {
					t.Fatalf("R3: Add(%d): %d, %v without those that were refused, want %d", at, got, same, x)
				}
			}
			if a.Last() != b.Last() || a.Lost() != b.Lost() {
				t.Fatalf("R3: %d, %d, want %d, %d", a.Last(), a.Lost(), b.Last(), b.Lost())
			}
			at += uint16(r.Intn(30)) - uint16(r.Intn(80)) + uint16(r.Intn(50))
		}
	}
}
