package octet_test

import (
	"math"
	"slices"
	"testing"

	"limelight/octet"
)

// roomy answers a list of those bytes with spare room behind it that is full of 0xee, and the whole of its memory.
func roomy(l ...byte) (b, whole []byte) {
	whole = append(slices.Clone(l), slices.Repeat([]byte{0xee}, 80)...)
	return whole[:len(l)], whole
}

// untouched fails unless whole is l and then 0xee alone.
func untouched(t *testing.T, what string, whole []byte, l ...byte) {
	t.Helper()
	if _, want := roomy(l...); !slices.Equal(whole, want) {
		t.Errorf("R2, R5: %s changed what it was handed: %v", what, whole)
	}
}

// apart fails if writing into answer, its spare room too, changes whole.
func apart(t *testing.T, what string, answer, whole []byte) {
	t.Helper()
	ahead := slices.Clone(whole)
	for i := range answer[:cap(answer)] {
		answer[:cap(answer)][i] = 0x55
	}
	if !slices.Equal(whole, ahead) {
		t.Errorf("R2: %s answered memory that it was handed", what)
	}
}

func TestPut(t *testing.T) {
	const n = 0x0102030405060708
	for _, c := range []struct {
		b    []byte
		n    uint64
		size int
		want []byte
	}{
		{nil, 258, 3, []byte{0, 1, 2}},
		{[]byte{}, 258, 3, []byte{0, 1, 2}},
		{nil, n, 1, []byte{8}},
		{nil, n, 2, []byte{7, 8}},
		{nil, n, 4, []byte{5, 6, 7, 8}},
		{nil, n, 7, []byte{2, 3, 4, 5, 6, 7, 8}},
		{nil, n, 8, []byte{1, 2, 3, 4, 5, 6, 7, 8}},
		{[]byte{9, 10}, 0, 1, []byte{9, 10, 0}},
		{[]byte{9}, 1<<63 | 1, 8, []byte{9, 128, 0, 0, 0, 0, 0, 0, 1}},
		{nil, math.MaxUint64, 2, []byte{255, 255}},
	} {
		if got := octet.Put(c.b, c.n, c.size); !slices.Equal(got, c.want) {
			t.Errorf("P1.1: Put(%v, %#x, %d) = %v, want %v", c.b, c.n, c.size, got, c.want)
		}
	}
}

func TestPutOfNoSize(t *testing.T) {
	for _, size := range []int{0, 9, 10, 64, 256, math.MaxInt, -1, -8, math.MinInt} {
		if got := octet.Put([]byte{9, 10}, 5, size); !slices.Equal(got, []byte{9, 10}) {
			t.Errorf("P1.1: Put, size %d: %v", size, got)
		}
		if got := octet.Put(nil, 5, size); len(got) != 0 {
			t.Errorf("P1.1: Put to nothing, size %d: %v", size, got)
		}
	}
}

func TestPutMakesAnew(t *testing.T) {
	for size := -1; size <= 10; size++ {
		b, whole := roomy(1, 2, 3)
		got := octet.Put(b, math.MaxUint64, size)
		untouched(t, "Put", whole, 1, 2, 3)
		apart(t, "Put", got, whole)
		b, whole = roomy()
		apart(t, "Put to nothing", octet.Put(b, math.MaxUint64, size), whole)
		untouched(t, "Put to nothing", whole)
	}
}

func TestGet(t *testing.T) {
	b := []byte{1, 2, 3, 4, 5, 6, 7, 8, 255}
	for _, c := range []struct {
		at, size int
		want     uint64
	}{
		{0, 1, 1},
		{8, 1, 255},
		{0, 2, 0x0102},
		{7, 2, 0x08ff},
		{3, 4, 0x04050607},
		{2, 7, 0x030405060708ff},
		{0, 8, 0x0102030405060708},
		{1, 8, 0x02030405060708ff},
	} {
		if got, ok := octet.Get(b, c.at, c.size); got != c.want || !ok {
			t.Errorf("P1.1: Get(b, %d, %d) = %#x, %v, want %#x", c.at, c.size, got, ok, c.want)
		}
	}
	high := slices.Repeat([]byte{255}, 8)
	if got, ok := octet.Get(high, 0, 8); got != math.MaxUint64 || !ok {
		t.Errorf("P1.1: Get of the greatest number: %d, %v", got, ok)
	}
	if got, ok := octet.Get(make([]byte, 8), 0, 8); got != 0 || !ok {
		t.Errorf("P1.1: Get of noughts: %d, %v", got, ok)
	}
}

func TestGetOfWhatIsNotThere(t *testing.T) {
	b, whole := roomy(1, 2, 3, 4, 5, 6, 7, 8, 9)
	for _, c := range []struct{ at, size int }{
		{9, 1}, {8, 2}, {2, 8}, {1, 9}, {0, 9}, {0, 10}, {0, 0}, {9, 0}, {0, -1}, {9, -1}, {-1, 1}, {-1, 2}, {-8, 8}, {10, 1}, {10, 0},
		{math.MaxInt, 1}, {math.MaxInt, 8}, {math.MaxInt - 7, 8}, {math.MinInt, 1}, {math.MinInt, 8}, {1, math.MaxInt}, {1, math.MinInt}, {math.MaxInt, math.MaxInt}, {math.MinInt, math.MinInt},
	} {
		if got, ok := octet.Get(b, c.at, c.size); got != 0 || ok {
			t.Errorf("P1.1: Get(b, %d, %d) = %d, %v, want 0, false", c.at, c.size, got, ok)
		}
	}
	for size := -1; size <= 9; size++ {
		if got, ok := octet.Get(nil, 0, size); got != 0 || ok {
			t.Errorf("P1.1: Get(nil, 0, %d) = %d, %v", size, got, ok)
		}
		if got, ok := octet.Get([]byte{}, 0, size); got != 0 || ok {
			t.Errorf("R4: Get(empty, 0, %d) = %d, %v", size, got, ok)
		}
	}
	untouched(t, "Get", whole, 1, 2, 3, 4, 5, 6, 7, 8, 9)
}

func TestGetOfPut(t *testing.T) {
	n := uint64(0x9e3779b97f4a7c15)
	for i := range 1000 {
		n = n*6364136223846793005 + 1442695040888963407
		for size := 1; size <= 8; size++ {
			at := i % 5
			b := append(octet.Put(make([]byte, at), n, size), 0xee)
			want := n
			if size < 8 {
				want = n % (1 << (8 * size))
			}
			if got, ok := octet.Get(b, at, size); got != want || !ok || len(b) != at+size+1 {
				t.Fatalf("P1.1: Get of Put(%#x, %d) = %#x, %v, want %#x", n, size, got, ok, want)
			}
		}
	}
}

func TestPad(t *testing.T) {
	for _, c := range []struct {
		n, to, want int
	}{
		{4, 4, 4}, {5, 4, 8}, {7, 4, 8}, {1, 4, 4}, {0, 4, 0}, {0, 64, 0}, {1, 64, 64}, {64, 64, 64}, {65, 64, 128}, {63, 64, 64}, {5, 1, 5}, {5, 2, 6}, {7, 3, 9}, {62, 63, 63}, {64, 63, 126}, {1500, 64, 1536},
	} {
		b := slices.Repeat([]byte{7}, c.n)
		want := append(slices.Clone(b), make([]byte, c.want-c.n)...)
		if got := octet.Pad(b, c.to); !slices.Equal(got, want) {
			t.Errorf("P1.1: Pad of %d to %d: %v", c.n, c.to, got)
		}
	}
}

func TestPadToNoSize(t *testing.T) {
	for _, to := range []int{0, -1, -4, -64, math.MinInt, 65, 66, 128, math.MaxInt} {
		if got := octet.Pad([]byte{1, 2, 3}, to); !slices.Equal(got, []byte{1, 2, 3}) {
			t.Errorf("P1.1: Pad to %d: %v", to, got)
		}
		if got := octet.Pad(nil, to); len(got) != 0 {
			t.Errorf("P1.1: Pad of nothing to %d: %v", to, got)
		}
	}
}

func TestPadMakesAnew(t *testing.T) {
	for to := -1; to <= 66; to++ {
		b, whole := roomy(1, 2, 3)
		got := octet.Pad(b, to)
		untouched(t, "Pad", whole, 1, 2, 3)
		if slices.Contains(got, 0xee) {
			t.Errorf("R5: Pad to %d read the spare room: %v", to, got)
		}
		apart(t, "Pad", got, whole)
		b, whole = roomy()
		apart(t, "Pad of nothing", octet.Pad(b, to), whole)
	}
}

func TestCut(t *testing.T) {
	b := []byte{1, 2, 3, 4, 5}
	for _, c := range []struct {
		at, n int
		want  []byte
	}{
		{0, 5, []byte{1, 2, 3, 4, 5}}, {0, 1, []byte{1}}, {4, 1, []byte{5}}, {1, 3, []byte{2, 3, 4}}, {2, 3, []byte{3, 4, 5}}, {0, 0, nil}, {3, 0, nil}, {5, 0, nil},
	} {
		if got, ok := octet.Cut(b, c.at, c.n); !slices.Equal(got, c.want) || !ok {
			t.Errorf("P1.1: Cut(b, %d, %d) = %v, %v, want %v", c.at, c.n, got, ok, c.want)
		}
	}
	for _, none := range [][]byte{nil, {}} {
		if got, ok := octet.Cut(none, 0, 0); len(got) != 0 || !ok {
			t.Errorf("P1.1: Cut of nothing from nothing: %v, %v", got, ok)
		}
	}
}

func TestCutOfWhatIsNotThere(t *testing.T) {
	b, _ := roomy(1, 2, 3, 4, 5)
	for _, c := range []struct{ at, n int }{
		{0, 6}, {5, 1}, {6, 0}, {6, -1}, {4, 2}, {-1, 0}, {-1, 1}, {-1, 6}, {0, -1}, {5, -1}, {5, -5},
		{math.MaxInt, 0}, {math.MaxInt, 1}, {1, math.MaxInt}, {math.MaxInt, math.MaxInt}, {math.MinInt, 0}, {math.MinInt, math.MinInt}, {math.MinInt, math.MaxInt}, {3, math.MinInt},
	} {
		if got, ok := octet.Cut(b, c.at, c.n); len(got) != 0 || ok {
			t.Errorf("P1.1: Cut(b, %d, %d) = %v, %v, want none, false", c.at, c.n, got, ok)
		}
	}
	if got, ok := octet.Cut(nil, 0, 1); len(got) != 0 || ok {
		t.Errorf("P1.1: Cut(nil, 0, 1) = %v, %v", got, ok)
	}
}

func TestCutMakesAnew(t *testing.T) {
	for at := range 4 {
		for n := range 4 - at {
			b, whole := roomy(1, 2, 3)
			got, ok := octet.Cut(b, at, n)
			if !ok {
				t.Errorf("P1.1: Cut(b, %d, %d): false", at, n)
			}
			untouched(t, "Cut", whole, 1, 2, 3)
			apart(t, "Cut", got, whole)
		}
	}
}
