package rate_test

import (
	"math"
	"math/big"
	"math/rand"
	"testing"

	"limelight/rate"
)

// noBits are sizes that a mantissa may not have: about the bounds, at the ends of int, and some whose low bits are a size that may be.
var noBits = []int{0, -1, -2, -18, -24, 25, 26, 32, 63, 64, 65, 128, 256 + 18, 1<<16 + 18, 1<<32 + 18, math.MinInt, math.MinInt + 18, math.MaxInt, math.MaxInt32, math.MinInt32}

// noExps are exponents that may not be, chosen likewise.
var noExps = []int{-1, -2, -63, -64, 64, 65, 127, 128, 256, 1 << 16, 1 << 32, 1<<32 + 3, math.MinInt, math.MinInt + 3, math.MaxInt, math.MaxInt32, math.MinInt32}

func power(n int) *big.Int {
	return new(big.Int).Lsh(big.NewInt(1), uint(n))
}

func whole(n uint64) *big.Int {
	return new(big.Int).SetUint64(n)
}

// pack tells by the chapter's words, in numbers of any size, what Pack must answer: the first exponent at which n divided by its power, rounded down, is below the power of bits.
func pack(n uint64, bits int) (int, uint32) {
	if bits < 1 || bits > 24 {
		return 0, 0
	}
	for exp := 0; ; exp++ {
		man := new(big.Int).Div(whole(n), power(exp))
		if man.Cmp(power(bits)) < 0 {
			return exp, uint32(man.Uint64())
		}
	}
}

// open tells likewise what Open must answer.
func open(exp int, man uint32, bits int) uint64 {
	if bits < 1 || bits > 24 || exp < 0 || exp > 63 || whole(uint64(man)).Cmp(power(bits)) >= 0 {
		return 0
	}
	n := new(big.Int).Mul(whole(uint64(man)), power(exp))
	if n.Cmp(whole(math.MaxUint64)) > 0 {
		return math.MaxUint64
	}
	return n.Uint64()
}

// nearPowers are the numbers next to each power of two, and these; 2^64 - 1 is among them.
func nearPowers() []uint64 {
	l := []uint64{0, math.MaxUint64, math.MaxUint64 - 1}
	for p := range 64 {
		n := uint64(1) << p
		l = append(l, n-1, n, n+1, n|n>>1, n|1)
	}
	return l
}

func TestPack(t *testing.T) {
	for _, c := range []struct {
		n    uint64
		bits int
		exp  int
		man  uint32
		down uint64
	}{
		{0, 1, 0, 0, 0}, {0, 18, 0, 0, 0}, {0, 24, 0, 0, 0},
		{1, 1, 0, 1, 1}, {1, 24, 0, 1, 1}, {2, 1, 1, 1, 2}, {3, 1, 1, 1, 2}, {4, 1, 2, 1, 4}, {7, 1, 2, 1, 4},
		{3, 2, 0, 3, 3}, {4, 2, 1, 2, 4}, {5, 2, 1, 2, 4}, {6, 2, 1, 3, 6}, {7, 2, 1, 3, 6}, {8, 2, 2, 2, 8}, {15, 2, 2, 3, 12},
		{1000000, 17, 3, 125000, 1000000}, {1000001, 17, 3, 125000, 1000000}, {1000007, 17, 3, 125000, 1000000}, {1000008, 17, 3, 125001, 1000008},
		{1000000, 18, 2, 250000, 1000000}, {1000003, 18, 2, 250000, 1000000}, {1000000, 24, 0, 1000000, 1000000}, {64000, 17, 0, 64000, 64000},
		{1<<17 - 1, 17, 0, 1<<17 - 1, 1<<17 - 1}, {1 << 17, 17, 1, 1 << 16, 1 << 17}, {1<<17 + 1, 17, 1, 1 << 16, 1 << 17}, {1<<17 + 2, 17, 1, 1<<16 + 1, 1<<17 + 2},
		{1<<18 - 1, 18, 0, 1<<18 - 1, 1<<18 - 1}, {1 << 18, 18, 1, 1 << 17, 1 << 18}, {1<<18 + 1, 18, 1, 1 << 17, 1 << 18}, {1<<19 - 1, 18, 1, 1<<18 - 1, 1<<19 - 2}, {1 << 19, 18, 2, 1 << 17, 1 << 19},
		{1<<24 - 1, 24, 0, 1<<24 - 1, 1<<24 - 1}, {1 << 24, 24, 1, 1 << 23, 1 << 24}, {1 << 32, 24, 9, 1 << 23, 1 << 32}, {1<<32 - 1, 24, 8, 1<<24 - 1, 1<<32 - 1<<8},
		{1 << 63, 1, 63, 1, 1 << 63}, {1<<63 - 1, 1, 62, 1, 1 << 62}, {1 << 63, 18, 46, 1 << 17, 1 << 63}, {1 << 63, 24, 40, 1 << 23, 1 << 63},
		{math.MaxUint64, 1, 63, 1, 1 << 63}, {math.MaxUint64, 2, 62, 3, 3 << 62}, {math.MaxUint64, 17, 47, 1<<17 - 1, (1<<17 - 1) << 47},
		{math.MaxUint64, 18, 46, 1<<18 - 1, (1<<18 - 1) << 46}, {math.MaxUint64, 24, 40, 1<<24 - 1, (1<<24 - 1) << 40},
	} {
		if exp, man := rate.Pack(c.n, c.bits); exp != c.exp || man != c.man {
			t.Errorf("P5.1: Pack(%d, %d) = %d, %d, want %d, %d", c.n, c.bits, exp, man, c.exp, c.man)
		}
		if got := rate.Down(c.n, c.bits); got != c.down {
			t.Errorf("P5.1: Down(%d, %d) = %d, want %d", c.n, c.bits, got, c.down)
		}
	}
}

func TestPackOfNoBits(t *testing.T) {
	for _, bits := range noBits {
		for _, n := range nearPowers() {
			if exp, man := rate.Pack(n, bits); exp != 0 || man != 0 {
				t.Errorf("P5.1: Pack(%d, %d) = %d, %d, want 0, 0", n, bits, exp, man)
			}
			if got := rate.Down(n, bits); got != 0 {
				t.Errorf("P5.1: Down(%d, %d) = %d, want 0", n, bits, got)
			}
		}
	}
}

func TestPackNextToEachPower(t *testing.T) {
	for _, n := range nearPowers() {
		for bits := -1; bits <= 26; bits++ {
			holdTogether(t, n, bits)
		}
	}
}

func TestPackOfMany(t *testing.T) {
	r := rand.New(rand.NewSource(5))
	for range 20000 {
		holdTogether(t, r.Uint64()>>r.Intn(64), 1+r.Intn(24))
	}
}

// holdTogether holds Pack, Open and Down of one number against the chapter's words and against each other.
func holdTogether(t *testing.T, n uint64, bits int) {
	t.Helper()
	exp, man := rate.Pack(n, bits)
	if e, m := pack(n, bits); exp != e || man != m {
		t.Errorf("P5.1: Pack(%d, %d) = %d, %d, want %d, %d", n, bits, exp, man, e, m)
	}
	down := rate.Down(n, bits)
	if down != open(exp, man, bits) || down != rate.Open(exp, man, bits) {
		t.Errorf("P5.1: Down(%d, %d) = %d, Open of Pack is %d", n, bits, down, rate.Open(exp, man, bits))
	}
	if e, m := rate.Pack(down, bits); e != exp || m != man || rate.Down(down, bits) != down {
		t.Errorf("P5.1: Pack(%d, %d) = %d, %d, and Down of it %d: it was Down already", down, bits, e, m, rate.Down(down, bits))
	}
	if bits >= 1 && bits <= 24 && (down > n || n-down >= 1<<exp) {
		t.Errorf("P5.1: Down(%d, %d) = %d: above it, or more cut off than what is below", n, bits, down)
	}
}

func TestOpen(t *testing.T) {
	for _, c := range []struct {
		exp  int
		man  uint32
		bits int
		want uint64
	}{
		{0, 0, 18, 0}, {0, 1, 1, 1}, {0, 5, 18, 5}, {1, 5, 18, 10}, {3, 5, 18, 40}, {3, 125000, 17, 1000000}, {2, 250000, 18, 1000000},
		{10, 1, 24, 1024}, {1, 1 << 17, 18, 1 << 18}, {40, 1<<24 - 1, 24, (1<<24 - 1) << 40}, {47, 1<<17 - 1, 17, (1<<17 - 1) << 47},
		{63, 0, 1, 0}, {63, 0, 24, 0}, // nought stays nought
		{63, 1, 1, 1 << 63}, {63, 1, 24, 1 << 63}, {62, 2, 2, 1 << 63}, {62, 3, 2, 3 << 62}, // the most that goes
		{63, 2, 2, math.MaxUint64}, {63, 2, 18, math.MaxUint64}, {63, 3, 18, math.MaxUint64}, {62, 4, 3, math.MaxUint64}, {62, 5, 18, math.MaxUint64},
		{41, 1 << 23, 24, math.MaxUint64}, {41, 1<<23 - 1, 24, (1<<23 - 1) << 41}, {40, 1 << 23, 24, 1 << 63}, {41, 1<<24 - 1, 24, math.MaxUint64},
		{47, 1 << 17, 18, math.MaxUint64}, {47, 1<<17 + 1, 18, math.MaxUint64}, {63, 1<<24 - 1, 24, math.MaxUint64}, {63, 1 << 18, 24, math.MaxUint64},
		{0, 1, 24, 1}, {0, 1<<24 - 1, 24, 1<<24 - 1}, {0, 1<<18 - 1, 18, 1<<18 - 1}, {0, 1<<17 - 1, 17, 1<<17 - 1}, {0, 3, 2, 3},
		{0, 1 << 24, 24, 0}, {0, 1 << 18, 18, 0}, {0, 1<<18 + 1, 18, 0}, {0, 1 << 17, 17, 0}, {0, 2, 1, 0}, {0, 4, 2, 0}, {63, 2, 1, 0}, // what does not fit is not held but nothing
		{0, math.MaxUint32, 24, 0}, {63, math.MaxUint32, 24, 0}, {0, math.MaxUint32, 1, 0}, {5, 1 << 31, 18, 0},
		{-1, 1, 18, 0}, {64, 1, 18, 0}, {64, 0, 18, 0}, {65, 1, 18, 0}, {0, 1, 0, 0}, {0, 0, 0, 0}, {0, 1, 25, 0}, {0, 1, -1, 0}, {64, 1, 25, 0}, {-1, 2, 1, 0},
	} {
		if got := rate.Open(c.exp, c.man, c.bits); got != c.want {
			t.Errorf("P5.1: Open(%d, %d, %d) = %d, want %d", c.exp, c.man, c.bits, got, c.want)
		}
	}
}

func TestOpenOfWhatMayNotBe(t *testing.T) {
	mans := []uint32{0, 1, 2, 3, 1 << 17, 1<<18 - 1, 1<<24 - 1, 1 << 24, math.MaxUint32}
	for _, man := range mans {
		for _, exp := range noExps {
			for _, bits := range append([]int{1, 17, 18, 24}, noBits...) {
				if got := rate.Open(exp, man, bits); got != 0 {
					t.Errorf("P5.1: Open(%d, %d, %d) = %d, want 0", exp, man, bits, got)
				}
			}
		}
		for _, bits := range noBits {
			for exp := range 64 {
				if got := rate.Open(exp, man, bits); got != 0 {
					t.Errorf("P5.1: Open(%d, %d, %d) = %d, want 0", exp, man, bits, got)
				}
			}
		}
	}
}

func TestOpenOfEachExponentAndSize(t *testing.T) {
	mans := []uint32{math.MaxUint32, math.MaxUint32 - 1}
	for p := range 32 {
		n := uint32(1) << p
		mans = append(mans, n-1, n, n+1, n|n>>1)
	}
	for exp := -2; exp <= 66; exp++ {
		for bits := -1; bits <= 26; bits++ {
			for _, man := range mans {
				if got, want := rate.Open(exp, man, bits), open(exp, man, bits); got != want {
					t.Errorf("P5.1: Open(%d, %d, %d) = %d, want %d", exp, man, bits, got, want)
				}
			}
		}
	}
}

// TestEachOfFewBits goes through each mantissa of up to nine bits at each exponent: what is in its shortest form and goes comes back.
func TestEachOfFewBits(t *testing.T) {
	for bits := 1; bits <= 9; bits++ {
		for exp := range 64 {
			for man := range uint32(1) << bits {
				n := rate.Open(exp, man, bits)
				if n != open(exp, man, bits) {
					t.Fatalf("P5.1: Open(%d, %d, %d) = %d", exp, man, bits, n)
				}
				shortest := exp == 0 || man>>(bits-1) == 1
				if !shortest || exp+bits > 64 {
					continue
				}
				if e, m := rate.Pack(n, bits); e != exp || m != man {
					t.Fatalf("P5.1: Pack(%d, %d) = %d, %d, want %d, %d", n, bits, e, m, exp, man)
				}
			}
		}
	}
}

func TestDown(t *testing.T) {
	for _, c := range []struct {
		n    uint64
		bits int
		want uint64
	}{
		{5, 2, 4}, {5, 3, 5}, {5, 1, 4}, {999999, 17, 999992}, {999999, 18, 999996}, {999999, 24, 999999}, {1<<40 + 1, 24, 1 << 40}, {1<<41 - 1, 17, (1<<17 - 1) << 24},
		{5, 0, 0}, {5, 25, 0}, {5, -1, 0}, {math.MaxUint64, 0, 0}, {math.MaxUint64, 25, 0}, {0, 0, 0}, {0, 1, 0},
	} {
		if got := rate.Down(c.n, c.bits); got != c.want {
			t.Errorf("P5.1: Down(%d, %d) = %d, want %d", c.n, c.bits, got, c.want)
		}
	}
}

func TestBytes(t *testing.T) {
	for _, c := range []struct {
		n    uint64
		want int64
	}{
		{0, 0}, {1, 0}, {7, 0}, {8, 1}, {9, 1}, {15, 1}, {16, 2}, {80, 10}, {87, 10}, {88, 11}, {1000000, 125000}, {1 << 32, 1 << 29}, {1<<35 - 1, 1<<32 - 1},
		{1<<43 - 9, 1<<40 - 2}, {1<<43 - 8, 1<<40 - 1}, {1<<43 - 1, 1<<40 - 1}, // one less than what it holds at
		{1 << 43, 1 << 40}, {1<<43 + 1, 1 << 40}, {1<<43 + 7, 1 << 40}, {1<<43 + 8, 1 << 40}, {1<<43 + 800, 1 << 40}, {1 << 44, 1 << 40},
		{1 << 62, 1 << 40}, {math.MaxInt64, 1 << 40}, {1 << 63, 1 << 40}, {1<<63 + 8, 1 << 40}, {math.MaxUint64 - 7, 1 << 40}, {math.MaxUint64, 1 << 40},
	} {
		if got := rate.Bytes(c.n); got != c.want {
			t.Errorf("P5.1: Bytes(%d) = %d, want %d", c.n, got, c.want)
		}
	}
}

func TestBytesNextToEachPower(t *testing.T) {
	for _, n := range nearPowers() {
		want := new(big.Int).Div(whole(n), big.NewInt(8))
		if want.Cmp(power(40)) > 0 {
			want = power(40)
		}
		if got := rate.Bytes(n); got != want.Int64() {
			t.Errorf("P5.1: Bytes(%d) = %d, want %d", n, got, want)
		}
	}
}
