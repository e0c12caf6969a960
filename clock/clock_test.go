package clock_test

import (
	"math"
	"math/big"
	"math/rand"
	"testing"

	"limelight/clock"
)

const (
	top    = math.MaxInt64
	bottom = math.MinInt64
)

// big0 answers n in a number of any size, what is below 0 as 0.
func big0(n int64) *big.Int {
	if n < 0 {
		return new(big.Int)
	}
	return big.NewInt(n)
}

// held answers n, held at 2^63 - 1.
func held(n *big.Int) int64 {
	if n.Cmp(big.NewInt(top)) > 0 {
		return top
	}
	return n.Int64()
}

// add, mul, over and less tell by the chapter's words, in numbers of any size, what the calls must answer.
func add(a, b int64) int64 {
	return held(new(big.Int).Add(big0(a), big0(b)))
}

func mul(a, b int64) int64 {
	return held(new(big.Int).Mul(big0(a), big0(b)))
}

// over answers the least number that times by is n at least.
func over(n, by int64) int64 {
	if by <= 0 {
		return 0
	}
	q, rest := new(big.Int).QuoRem(big0(n), big0(by), new(big.Int))
	if rest.Sign() > 0 {
		q.Add(q, big.NewInt(1))
	}
	return held(q)
}

func less(a, b, c, d int64) bool {
	return new(big.Int).Mul(big0(a), big0(b)).Cmp(new(big.Int).Mul(big0(c), big0(d))) < 0
}

// holdTwo holds Add, Mul and Over of two numbers against the chapter's words.
func holdTwo(t *testing.T, a, b int64) {
	t.Helper()
	if got, want := clock.Add(a, b), add(a, b); got != want {
		t.Errorf("P9.1: Add(%d, %d) = %d, want %d", a, b, got, want)
	}
	if got, want := clock.Mul(a, b), mul(a, b); got != want {
		t.Errorf("P9.1: Mul(%d, %d) = %d, want %d", a, b, got, want)
	}
	if got, want := clock.Over(a, b), over(a, b); got != want {
		t.Errorf("P9.1: Over(%d, %d) = %d, want %d", a, b, got, want)
	}
}

func holdLess(t *testing.T, a, b, c, d int64) {
	t.Helper()
	if got, want := clock.Less(a, b, c, d), less(a, b, c, d); got != want {
		t.Errorf("P9.1: Less(%d, %d, %d, %d) = %v, want %v", a, b, c, d, got, want)
	}
}

// edges are numbers about which something changes: 0, the bounds, the powers of two, the roots of 2^62, 2^63 and 2^64, and factors whose products are 2^63 - 1, 2^63, 2^64 - 1 and 2^64 or next to these.
func edges() []int64 {
	return []int64{
		bottom, bottom + 1, bottom + 2, -1 << 62, -1 << 32, -1 << 31, -7, -2, -1, 0, 1, 2, 3, 5, 6, 7, 10, 49, 73, 641, 6700417,
		1<<31 - 1, 1 << 31, 1<<31 + 1, 1<<32 - 1, 1 << 32, 1<<32 + 1, 3037000499, 3037000500, 3037000501, 4294967295, 4294967297,
		top / 7, top/7 + 1, top / 5, top/5 + 1, top / 3, top/3 + 1, 1<<62 - 1, 1 << 62, 1<<62 + 1, top - 5, top - 2, top - 1, top,
		649657, 92737, 337, 127, top / 49, top / 73, top / 127, top / 337, top / 92737, top / 649657, 274177, 67280421310721, 67280421310722,
	}
}

func powers() []int64 {
	l := []int64{0, -1, bottom, top, top - 1}
	for p := range 63 {
		n := int64(1) << p
		l = append(l, n-1, n, n+1)
	}
	return l
}

func TestAdd(t *testing.T) {
	for _, c := range []struct{ a, b, want int64 }{
		{0, 0, 0}, {0, 1, 1}, {1, 0, 1}, {1, 1, 2}, {7, 2, 9}, {2, 7, 9}, {1000000, 500000, 1500000}, {1<<32 - 1, 1, 1 << 32}, {1 << 61, 1 << 61, 1 << 62},
		{top, 5, top},                                                                                                            // the chapter's run
		{top - 6, 5, top - 1}, {top - 5, 5, top}, {top - 4, 5, top}, {5, top - 6, top - 1}, {5, top - 5, top}, {5, top - 4, top}, // one less than what is held at, this, one more
		{top - 1, 0, top - 1}, {top - 2, 1, top - 1}, {top - 1, 1, top}, {top, 0, top}, {0, top, top}, {top, 1, top}, {1, top, top}, // likewise at the end
		{1 << 62, 1<<62 - 2, top - 1}, {1 << 62, 1<<62 - 1, top}, {1 << 62, 1 << 62, top}, {1<<62 + 1, 1 << 62, top}, {1<<62 - 1, 1<<62 - 1, top - 1}, // from two halves
		{top, top, top}, {top, top - 1, top}, {top - 1, top - 1, top}, {top, 2, top}, {2, top, top}, // sums next to 2^64
		{-5, 7, 7}, {7, -5, 7}, {-7, 5, 5}, {-5, -7, 0}, {-1, -1, 0}, {-1, 0, 0}, {0, -1, 0}, {-1, 1, 1}, // each below 0
		{bottom, 0, 0}, {0, bottom, 0}, {bottom, 7, 7}, {7, bottom, 7}, {bottom, -1, 0}, {-1, bottom, 0}, {bottom, bottom, 0}, {bottom, top, top}, {top, bottom, top}, {-1, top, top}, {top, -1, top}, {bottom + 1, top - 1, top - 1},
	} {
		if got := clock.Add(c.a, c.b); got != c.want {
			t.Errorf("P9.1: Add(%d, %d) = %d, want %d", c.a, c.b, got, c.want)
		}
	}
}

func TestMul(t *testing.T) {
	for _, c := range []struct{ a, b, want int64 }{
		{0, 0, 0}, {0, 1, 0}, {1, 0, 0}, {1, 1, 1}, {7, 2, 14}, {2, 7, 14}, {1 << 40, 1000000, 1099511627776000000}, {0, top, 0}, {top, 0, 0}, {1, top, top}, {top, 1, top}, {1, top - 1, top - 1}, {top - 1, 1, top - 1},
		{2, 1<<62 - 1, top - 1}, {1<<62 - 1, 2, top - 1}, // 2^63 - 2
		{7, 1317624576693539401, top}, {1317624576693539401, 7, top}, {649657 * 337 * 7 * 7, 127 * 73 * 92737, top}, // 2^63 - 1 from two factors
		{2, 1 << 62, top}, {1 << 62, 2, top}, {1 << 31, 1 << 32, top}, {1 << 32, 1 << 31, top}, // 2^63
		{1 << 32, 1<<31 - 1, top - 1<<32 + 1}, {1<<32 - 1, 1 << 31, top - 1<<31 + 1}, {1<<32 + 1, 1<<31 - 1, 9223372034707292159}, {1<<32 + 1, 1 << 31, top},
		{3037000499, 3037000499, 9223372030926249001}, {3037000499, 3037000500, 9223372033963249500}, {3037000500, 3037000500, top}, {3037000499, 3037000501, top}, // about the root
		{3, 3074457345618258602, top - 1}, {3, 3074457345618258603, top}, {5, 1844674407370955161, top - 2}, {5, 1844674407370955162, top}, // next to what is held at
		{1<<32 - 1, 1<<32 + 1, top}, {274177, 67280421310721, top}, {641, 6700417, 4294967297}, // 2^64 - 1, 2^64 + 1: their lowest bits alone are small
		{1 << 32, 1 << 32, top}, {1 << 33, 1 << 31, top}, {4, 1 << 62, top}, {1 << 62, 4, top}, {1<<62 + 1, 4, top}, {5, 1 << 62, top}, {1 << 62, 1 << 62, top}, {1 << 40, 1 << 40, top}, {3, 1 << 62, top}, // from 2^64 on
		{top, top, top}, {top, top - 1, top}, {top, 2, top}, {2, top, top}, {top, 3, top}, {top - 1, top - 1, top},
		{-5, 7, 0}, {7, -5, 0}, {-5, -7, 0}, {-1, -1, 0}, {-1, 1, 0}, {1, -1, 0}, {-1, 0, 0}, {0, -1, 0}, {-1, top, 0}, {top, -1, 0}, // each below 0
		{bottom, 0, 0}, {0, bottom, 0}, {bottom, 1, 0}, {1, bottom, 0}, {bottom, -1, 0}, {-1, bottom, 0}, {bottom, bottom, 0}, {bottom, top, 0}, {top, bottom, 0}, {bottom, 2, 0}, {2, bottom, 0},
	} {
		if got := clock.Mul(c.a, c.b); got != c.want {
			t.Errorf("P9.1: Mul(%d, %d) = %d, want %d", c.a, c.b, got, c.want)
		}
	}
}

func TestOver(t *testing.T) {
	for _, c := range []struct{ n, by, want int64 }{
		{7, 2, 4},                                                                                                                                               // the chapter's example
		{1, 1, 1}, {6, 2, 3}, {6, 3, 2}, {8, 2, 4}, {5, 5, 1}, {100, 10, 10}, {1 << 62, 1 << 31, 1 << 31}, {1 << 62, 2, 1 << 61}, {top, 7, 1317624576693539401}, // even
		{6, 5, 2}, {9, 2, 5}, {8, 3, 3}, {7, 3, 3}, {1, 2, 1}, {1, 3, 1}, {2, 3, 1}, {4, 5, 1}, {99, 10, 10}, {101, 10, 11}, {1<<62 + 1, 1 << 31, 1<<31 + 1}, {1<<62 - 1, 1 << 31, 1 << 31}, // rounded up
		{0, 1, 0}, {0, 2, 0}, {0, 7, 0}, {0, top, 0}, {0, 0, 0}, // n 0
		{1, 0, 0}, {7, 0, 0}, {top, 0, 0}, {top - 1, 0, 0}, // by 0
		{top, 1, top}, {top, 2, 1 << 62}, {top, 3, 3074457345618258603}, {top, 5, 1844674407370955162}, {top, 10, 922337203685477581}, {top, 1 << 32, 1 << 31}, {top, 1 << 62, 2}, {top, 1<<62 - 1, 3}, {top, top, 1}, {top, top - 1, 2},
		{top - 1, top, 1}, {1, top, 1}, {2, top, 1}, {top - 1, 1, top - 1}, {top - 1, 2, 1<<62 - 1}, {top - 1, top - 1, 1}, {top - 1, 1 << 62, 2}, {1 << 62, top, 1},
		{-1, 1, 0}, {-7, 2, 0}, {-7, 7, 0}, {-1, top, 0}, {bottom, 1, 0}, {bottom, 2, 0}, {bottom, top, 0}, {bottom + 1, 3, 0}, // n below 0
		{7, -2, 0}, {1, -1, 0}, {top, -1, 0}, {7, bottom, 0}, {top, bottom, 0}, {0, -1, 0}, {0, bottom, 0}, // by below 0
		{-7, -2, 0}, {-1, -1, 0}, {-4, -2, 0}, {bottom, -1, 0}, {bottom, bottom, 0}, {-1, bottom, 0}, {bottom, 0, 0}, {-1, 0, 0}, // both
	} {
		if got := clock.Over(c.n, c.by); got != c.want {
			t.Errorf("P9.1: Over(%d, %d) = %d, want %d", c.n, c.by, got, c.want)
		}
	}
}

func TestLess(t *testing.T) {
	for _, x := range []struct {
		a, b, c, d int64
		want       bool
	}{
		{1 << 62, 4, 1 << 62, 5, true}, // the chapter's example
		{1 << 62, 5, 1 << 62, 4, false}, {1 << 62, 4, 4, 1 << 62, false}, {4, 1 << 62, 5, 1 << 62, true},
		{2, 3, 6, 1, false}, {2, 3, 5, 1, false}, {1, 1, 1, 2, true}, {1, 2, 1, 1, false},
		{0, 0, 0, 0, false}, {0, 5, 5, 0, false}, {0, top, 0, 1, false}, {0, top, top, 0, false}, {0, top, 1, 1, true}, {1, 1, 0, top, false}, {0, 0, 1, 1, true}, {1, 1, 0, 0, false},
		{1, top, 1 << 31, 1 << 32, true}, {1 << 31, 1 << 32, 1, top, false}, {1, top, 7, 1317624576693539401, false}, {2, 1<<62 - 1, 1, top, true}, {1, top, 2, 1<<62 - 1, false}, // about 2^63
		{1 << 62, 2, 1 << 31, 1 << 32, false}, {1 << 62, 2, 3037000500, 3037000500, true}, {3037000500, 3037000500, 1 << 62, 2, false}, {1, top, top, 2, true}, {top, 2, 1, top, false}, {top, 2, top, 3, true}, // both above 2^63
		{1<<32 - 1, 1<<32 + 1, 1 << 32, 1 << 32, true}, {1 << 32, 1 << 32, 1<<32 - 1, 1<<32 + 1, false}, // 2^64 - 1 and 2^64
		{1 << 32, 1 << 32, 274177, 67280421310721, true}, {274177, 67280421310721, 1 << 32, 1 << 32, false}, {1 << 32, 1 << 32, 4, 1 << 62, false}, // 2^64 and 2^64 + 1
		{1, 2, 274177, 67280421310721, true}, {274177, 67280421310721, 1, 2, false}, {0, 0, 1 << 32, 1 << 32, true}, {1 << 32, 1 << 32, 1, 1, false}, // lowest halves that tell otherwise
		{top, top - 1, top, top, true}, {top, top, top, top - 1, false}, {top, top, top, top, false}, {top - 1, top, top, top - 1, false}, {top - 1, top - 1, top, top - 2, false}, {top, top - 2, top - 1, top - 1, true}, // the greatest ones; the last two are next to each other
		{1 << 40, 1 << 40, 1 << 60, 1<<20 + 1, true}, {1 << 40, 1 << 40, 1 << 60, 1 << 20, false}, {1<<40 + 1, 1<<40 - 1, 1 << 40, 1 << 40, true}, {1 << 40, 1 << 40, 1<<40 + 1, 1<<40 - 1, false}, // by little
		{1 << 40, 1<<40 + 2, 1<<40 + 1, 1<<40 + 1, true}, {1<<40 + 1, 1<<40 + 1, 1 << 40, 1<<40 + 2, false}, {1<<62 + 2, 1 << 62, 1<<62 + 1, 1<<62 + 1, true}, {1<<62 + 1, 1<<62 + 1, 1 << 62, 1<<62 + 2, false}, {1<<31 - 2, 1 << 31, 1<<31 - 1, 1<<31 - 1, true}, {1<<31 - 1, 1<<31 - 1, 1<<31 - 2, 1 << 31, false}, {2, 3, 7, 1, true}, {7, 1, 2, 3, false}, // in their last bit alone
		{-5, -5, 1, 1, true}, {1, 1, -5, -5, false}, {-5, -5, 0, 0, false}, {-5, -5, -6, -6, false}, {-6, -6, -5, -5, false}, {-5, 5, -6, 6, false}, {5, -5, 1, 1, true}, {-5, 5, 1, 1, true}, {1, 1, 5, -5, false}, {1, 1, -5, 5, false}, {0, 0, -5, -5, false}, {-6, 6, -5, 5, false},
		{bottom, 2, 1, 1, true}, {2, bottom, 1, 1, true}, {bottom, bottom, 1, 1, true}, {1, 1, bottom, bottom, false}, {1, 1, bottom, 1, false}, {1, 1, 1, bottom, false}, {bottom, bottom, bottom, bottom, false}, {bottom, 1, -1, 1, false}, {bottom, top, 0, top, false}, {0, top, bottom, bottom, false}, {bottom, top, 1, 1, true},
	} {
		if got := clock.Less(x.a, x.b, x.c, x.d); got != x.want {
			t.Errorf("P9.1: Less(%d, %d, %d, %d) = %v, want %v", x.a, x.b, x.c, x.d, got, x.want)
		}
	}
}

// TestEachEdgeWithEach goes through all that the chapter names, each with each.
func TestEachEdgeWithEach(t *testing.T) {
	for _, a := range edges() {
		for _, b := range edges() {
			holdTwo(t, a, b)
		}
	}
	for _, a := range powers() {
		for _, b := range powers() {
			holdTwo(t, a, b)
		}
	}
}

// TestLessOfEachEdgeWithEach compares the products of edges, each with each, and each with what is next to it.
func TestLessOfEachEdgeWithEach(t *testing.T) {
	l := []int64{bottom, bottom + 1, -7, -1, 0, 1, 2, 3, 4, 5, 7, 1<<31 - 1, 1 << 31, 1<<32 - 1, 1 << 32, 1<<32 + 1, 3037000499, 3037000500, 274177, 67280421310721, top / 7, 1<<62 - 1, 1 << 62, 1<<62 + 1, top - 1, top}
	for _, a := range l {
		for _, b := range l {
			for _, c := range l {
				for _, d := range l {
					holdLess(t, a, b, c, d)
				}
			}
		}
	}
}

// TestAboutWhatIsHeldAt takes for each factor the last one with which the sum and the product are not above 2^63 - 1, and its neighbours.
func TestAboutWhatIsHeldAt(t *testing.T) {
	r := rand.New(rand.NewSource(9))
	for range 20000 {
		a := r.Int63() >> r.Intn(63)
		for near := int64(-1); near <= 1; near++ {
			if b := top - a; b < top || near < 1 {
				holdTwo(t, a, b+near)
				holdTwo(t, b+near, a)
			}
			if a > 1 {
				holdTwo(t, a, top/a+near)
				holdTwo(t, top/a+near, a)
			}
		}
	}
}

// TestLessOfProductsNextToEachOther compares products that are the same, from other factors, and such that differ by 1.
func TestLessOfProductsNextToEachOther(t *testing.T) {
	r := rand.New(rand.NewSource(10))
	for range 20000 {
		x, y := 1+r.Int63n(1<<31-1)>>r.Intn(30), 1+r.Int63n(1<<31-1)>>r.Intn(30)
		z, w := 1+r.Int63n(1<<31-1)>>r.Intn(30), 1+r.Int63n(1<<31-1)>>r.Intn(30)
		if clock.Less(x*y, z*w, x*z, y*w) || clock.Less(x*w, y*z, x*y, z*w) || clock.Less(x*y, z*w, z*w, x*y) {
			t.Fatalf("P9.1: Less of the same product of %d, %d, %d, %d", x, y, z, w)
		}
		m := r.Int63n(top-1)>>r.Intn(61) + 1 // m - 1 times m + 1 is one less than m times m
		if !clock.Less(m-1, m+1, m, m) || clock.Less(m, m, m-1, m+1) || !clock.Less(m+1, m-1, m, m) {
			t.Fatalf("P9.1: Less next to %d times itself", m)
		}
		holdLess(t, x*y, z*w, x*y, z*w+1)
		holdLess(t, x*y, z*w, x*y+1, z*w-1)
		holdLess(t, x*y, z*w, x*z+1, y*w)
	}
}

func TestMany(t *testing.T) {
	r := rand.New(rand.NewSource(11))
	draw := func() int64 { return int64(r.Uint64()) >> r.Intn(64) }
	for range 50000 {
		a, b, c, d := draw(), draw(), draw(), draw()
		holdTwo(t, a, b)
		holdLess(t, a, b, c, d)
	}
}

// TestOfSmallNumbers goes through all of them, some below 0.
func TestOfSmallNumbers(t *testing.T) {
	for a := int64(-3); a <= 80; a++ {
		for b := int64(-3); b <= 80; b++ {
			holdTwo(t, a, b)
		}
	}
	for a := int64(-2); a <= 12; a++ {
		for b := int64(-2); b <= 12; b++ {
			for c := int64(-2); c <= 12; c++ {
				for d := int64(-2); d <= 12; d++ {
					holdLess(t, a, b, c, d)
				}
			}
		}
	}
}

// TestWhatFollows holds the calls against each other: the order of the numbers does not matter, and Over is the least that is enough.
func TestWhatFollows(t *testing.T) {
	for _, a := range edges() {
		for _, b := range edges() {
			if clock.Add(a, b) != clock.Add(b, a) || clock.Mul(a, b) != clock.Mul(b, a) {
				t.Errorf("P9.1: Add or Mul of %d, %d is not that of %d, %d", a, b, b, a)
			}
			if clock.Less(a, b, a, b) || clock.Less(a, b, b, a) {
				t.Errorf("P9.1: %d times %d is less than itself", a, b)
			}
			if q := clock.Over(a, b); b > 0 && a > 0 && (clock.Less(q, b, a, 1) || !clock.Less(q-1, b, a, 1)) {
				t.Errorf("P9.1: Over(%d, %d) = %d, which is not the least that is enough", a, b, q)
			}
		}
	}
}
