package rtcp_test

import (
	"bytes"
	"math"
	"math/big"
	"math/rand"
	"slices"
	"testing"

	"limelight/api"
	"limelight/rtcp"
)

// pack is bytes in a row; a test's reports are told in the pieces that the chapter tells.
func pack(pieces ...[]byte) []byte {
	return slices.Concat(pieces...)
}

func zeros(n int) []byte {
	return make([]byte, n)
}

func fill(n int, c byte) []byte {
	return bytes.Repeat([]byte{c}, n)
}

func tuple(owner uint32, rate uint64, over int) api.Tuple {
	return api.Tuple{Owner: owner, Rate: rate, Over: over}
}

// tuples are n that are not the same.
func tuples(n int) []api.Tuple {
	var l []api.Tuple
	for i := range n {
		l = append(l, tuple(uint32(i)<<28|7, uint64(i)<<40, 511-i))
	}
	return l
}

func abouts(n int) []uint32 {
	var l []uint32
	for i := range n {
		l = append(l, uint32(i)<<24|3)
	}
	return l
}

func numbers(n int) []int {
	var l []int
	for i := range n {
		l = append(l, 255-i)
	}
	return l
}

func tmmbr(l ...api.Tuple) api.Report {
	return api.Report{Kind: api.Tmmbr, From: 1, Tuples: l}
}

func tmmbn(l ...api.Tuple) api.Report {
	return api.Report{Kind: api.Tmmbn, From: 1, Tuples: l}
}

func pli(about uint32) api.Report {
	return api.Report{Kind: api.Pli, From: 1, About: about}
}

func fir(l []uint32, n []int) api.Report {
	return api.Report{Kind: api.Fir, From: 1, Abouts: l, Numbers: n}
}

func remb(rate uint64, l []uint32) api.Report {
	return api.Report{Kind: api.Remb, From: 1, Rate: rate, Abouts: l}
}

func other(typ, count int, body []byte) api.Report {
	return api.Report{Kind: api.Other, Type: typ, Count: count, Body: body}
}

// each is a right report of each kind, with nothing in it that is nothing.
func each() []api.Report {
	return []api.Report{
		tmmbr(tuple(2, 1000000, 40), tuple(3, 1<<63, 511)),
		tmmbn(tuple(math.MaxUint32, 1<<17-1, 1)),
		pli(0x0a0b0c0d),
		fir([]uint32{7, 8}, []int{255, 1}),
		remb(1<<20, []uint32{9, 10, 11}),
		other(200, 6, []byte{1, 2, 3, 4}),
	}
}

// told is a report, and the bytes that the chapter tells of it.
type told struct {
	r api.Report
	b []byte
}

func toldOnes() []told {
	return []told{
		{api.Report{Kind: api.Tmmbr}, pack([]byte{0x83, 205, 0, 2}, zeros(8))},
		{api.Report{Kind: api.Tmmbr, Tuples: []api.Tuple{}}, pack([]byte{0x83, 205, 0, 2}, zeros(8))},
		{api.Report{Kind: api.Tmmbr, From: 0x01020304, Tuples: []api.Tuple{tuple(0x05060708, 1, 0)}},
			[]byte{0x83, 205, 0, 4, 1, 2, 3, 4, 0, 0, 0, 0, 5, 6, 7, 8, 0, 0, 2, 0}},
		{tmmbr(tuple(5, 0, 511)), []byte{0x83, 205, 0, 4, 0, 0, 0, 1, 0, 0, 0, 0, 0, 0, 0, 5, 0, 0, 1, 255}},
		{tmmbr(tuple(5, 1<<17-1, 0)), []byte{0x83, 205, 0, 4, 0, 0, 0, 1, 0, 0, 0, 0, 0, 0, 0, 5, 3, 255, 254, 0}},
		{tmmbr(tuple(5, 1<<17, 256)), []byte{0x83, 205, 0, 4, 0, 0, 0, 1, 0, 0, 0, 0, 0, 0, 0, 5, 6, 0, 1, 0}},
		{tmmbr(tuple(5, (1<<17-1)<<47, 511)), []byte{0x83, 205, 0, 4, 0, 0, 0, 1, 0, 0, 0, 0, 0, 0, 0, 5, 0xbf, 255, 255, 255}},
		{tmmbr(tuple(5, 1<<63, 0)), []byte{0x83, 205, 0, 4, 0, 0, 0, 1, 0, 0, 0, 0, 0, 0, 0, 5, 0xbe, 0, 0, 0}},
		{tmmbr(make([]api.Tuple, 6)...), pack([]byte{0x83, 205, 0, 14, 0, 0, 0, 1}, zeros(52))},
		{tmmbn(tuple(2, 1000000, 40), tuple(3, 1<<18, 28)), // 1000000 is 125000 times eight
			[]byte{0x84, 205, 0, 6, 0, 0, 0, 1, 0, 0, 0, 0, 0, 0, 0, 2, 0x0f, 0xd0, 0x90, 40, 0, 0, 0, 3, 0x0a, 0, 0, 28}},
		{api.Report{Kind: api.Tmmbn}, pack([]byte{0x84, 205, 0, 2}, zeros(8))},
		{api.Report{Kind: api.Pli}, pack([]byte{0x81, 206, 0, 2}, zeros(8))},
		{api.Report{Kind: api.Pli, From: 0x01020304, About: 0x0a0b0c0d}, []byte{0x81, 206, 0, 2, 1, 2, 3, 4, 10, 11, 12, 13}},
		{pli(math.MaxUint32), []byte{0x81, 206, 0, 2, 0, 0, 0, 1, 255, 255, 255, 255}},
		{fir([]uint32{0x01020304}, []int{5}), []byte{0x84, 206, 0, 4, 0, 0, 0, 1, 0, 0, 0, 0, 1, 2, 3, 4, 5, 0, 0, 0}},
		{fir([]uint32{7, 8}, []int{255, 0}), []byte{0x84, 206, 0, 6, 0, 0, 0, 1, 0, 0, 0, 0, 0, 0, 0, 7, 255, 0, 0, 0, 0, 0, 0, 8, 0, 0, 0, 0}},
		{api.Report{Kind: api.Fir, Abouts: make([]uint32, 16), Numbers: make([]int, 16)}, pack([]byte{0x84, 206, 0, 34}, zeros(136))},
		{api.Report{Kind: api.Remb}, []byte{0x8f, 206, 0, 4, 0, 0, 0, 0, 0, 0, 0, 0, 'R', 'E', 'M', 'B', 0, 0, 0, 0}},
		{remb(5, nil), []byte{0x8f, 206, 0, 4, 0, 0, 0, 1, 0, 0, 0, 0, 'R', 'E', 'M', 'B', 0, 0, 0, 5}},
		{remb(1<<18-1, nil), []byte{0x8f, 206, 0, 4, 0, 0, 0, 1, 0, 0, 0, 0, 'R', 'E', 'M', 'B', 0, 3, 255, 255}},
		{remb(1<<18, nil), []byte{0x8f, 206, 0, 4, 0, 0, 0, 1, 0, 0, 0, 0, 'R', 'E', 'M', 'B', 0, 6, 0, 0}},
		{remb((1<<18-1)<<46, nil), []byte{0x8f, 206, 0, 4, 0, 0, 0, 1, 0, 0, 0, 0, 'R', 'E', 'M', 'B', 0, 0xbb, 255, 255}},
		{remb(1000000, []uint32{9, 0x01020304}), // 250000 times four
			[]byte{0x8f, 206, 0, 6, 0, 0, 0, 1, 0, 0, 0, 0, 'R', 'E', 'M', 'B', 2, 0x0b, 0xd0, 0x90, 0, 0, 0, 9, 1, 2, 3, 4}},
		{remb(0, make([]uint32, 16)), pack([]byte{0x8f, 206, 0, 20, 0, 0, 0, 1, 0, 0, 0, 0, 'R', 'E', 'M', 'B', 16, 0, 0, 0}, zeros(64))},
		{other(192, 0, nil), []byte{0x80, 192, 0, 0}},
		{other(192, 0, []byte{}), []byte{0x80, 192, 0, 0}},
		{other(223, 31, []byte{1, 2, 3, 4}), []byte{0x9f, 223, 0, 1, 1, 2, 3, 4}},
		{other(200, 1, []byte{1, 2, 3, 4, 5, 6, 7, 8}), []byte{0x81, 200, 0, 2, 1, 2, 3, 4, 5, 6, 7, 8}},
		{other(205, 1, fill(12, 9)), pack([]byte{0x81, 205, 0, 3}, fill(12, 9))},
		{other(205, 15, nil), []byte{0x8f, 205, 0, 0}},
		{other(206, 3, nil), []byte{0x83, 206, 0, 0}},
		{other(204, 3, nil), []byte{0x83, 204, 0, 0}},
		{other(207, 1, nil), []byte{0x81, 207, 0, 0}},
		{other(201, 2, fill(1028, 4)), pack([]byte{0x82, 201, 1, 1}, fill(1028, 4))},
		{other(201, 2, fill(1496, 4)), pack([]byte{0x82, 201, 1, 118}, fill(1496, 4))},
	}
}

func TestBytesAndReadOfOne(t *testing.T) {
	for i, c := range toldOnes() {
		if why := rtcp.Right(c.r); why != api.OK {
			t.Errorf("P6.1: Right, case %d: %d", i, int(why))
		}
		if got, why := rtcp.Bytes([]api.Report{c.r}); why != api.OK || !slices.Equal(got, c.b) {
			t.Errorf("P6.2: Bytes, case %d: %v, %d, want %v", i, got, int(why), c.b)
		}
		if got, why := rtcp.Read(c.b); why != api.OK || len(got) != 1 || !rtcp.Same(got[0], c.r) {
			t.Errorf("P6.2: Read, case %d: %v, %d", i, got, int(why))
		}
		if !rtcp.Is(c.b) {
			t.Errorf("P6.2: Is, case %d: false", i)
		}
		for n := range c.b {
			if got, why := rtcp.Read(c.b[:n]); why != api.ErrShort || len(got) != 0 {
				t.Errorf("P6.2: Read, case %d, of its first %d bytes: %v, %d", i, n, got, int(why))
			}
		}
	}
}

// TestBytesAndReadOfTwo lays each one behind each other one, as far as both go.
func TestBytesAndReadOfTwo(t *testing.T) {
	for i, a := range toldOnes() {
		for j, b := range toldOnes() {
			got, why := rtcp.Bytes([]api.Report{a.r, b.r})
			both := pack(a.b, b.b)
			if len(both) > 1500 {
				if why != api.ErrLong || len(got) != 0 {
					t.Errorf("P6.2: Bytes, cases %d, %d: %d", i, j, int(why))
				}
				continue
			}
			if why != api.OK || !slices.Equal(got, both) {
				t.Errorf("P6.2: Bytes, cases %d, %d: %v, %d", i, j, got, int(why))
			}
			l, why := rtcp.Read(both)
			if why != api.OK || len(l) != 2 || !rtcp.Same(l[0], a.r) || !rtcp.Same(l[1], b.r) {
				t.Errorf("P6.3: Read of Bytes, cases %d, %d: %v, %d", i, j, l, int(why))
			}
			for n := len(a.b) + 1; n < len(both); n++ {
				if l, why := rtcp.Read(both[:n]); why != api.ErrShort || len(l) != 0 {
					t.Fatalf("P6.2: Read, cases %d, %d, of %d bytes: %v, %d", i, j, n, l, int(why))
				}
			}
		}
	}
}

// wrong is a report that may not be, and what Right answers.
type wrong struct {
	r   api.Report
	why api.Errno
}

func hold(t *testing.T, l []wrong) {
	t.Helper()
	for i, c := range l {
		if why := rtcp.Right(c.r); why != c.why {
			t.Errorf("P6.1: Right, case %d: %d, want %d: %v", i, int(why), int(c.why), c.r)
		}
		b, why := rtcp.Bytes([]api.Report{pli(1), c.r, pli(2)})
		if why != c.why || (len(b) == 0) != (why != api.OK) {
			t.Errorf("P6.2: Bytes, case %d: %d, want %d", i, int(why), int(c.why))
		}
	}
}

func TestRightOfKinds(t *testing.T) {
	for _, kind := range []int{0, -1, -6, 7, 8, 256, 257, 1<<8 + 3, 1<<32 + 1, math.MaxInt, math.MinInt, math.MinInt + 1} {
		r := each()[2]
		r.Kind = kind
		hold(t, []wrong{
			{api.Report{Kind: kind}, api.ErrForm},
			{r, api.ErrForm},
			{api.Report{Kind: kind, Tuples: tuples(7), Type: -1, Rate: math.MaxUint64, Body: zeros(1)}, api.ErrForm},
		})
	}
	for _, r := range each() {
		hold(t, []wrong{{r, api.OK}})
	}
}

func TestRightOfTuples(t *testing.T) {
	for n := range 10 {
		why := api.ErrArg
		if n <= 6 {
			why = api.OK
		}
		hold(t, []wrong{{tmmbr(tuples(n)...), why}, {tmmbn(tuples(n)...), why}})
	}
	hold(t, []wrong{{tmmbr(make([]api.Tuple, 1<<16)...), api.ErrArg}, {tmmbn(make([]api.Tuple, 1<<16+1)...), api.ErrArg}})
	for _, c := range []struct {
		rate uint64
		over int
		why  api.Errno
	}{
		{1, -1, api.ErrArg}, {1, 0, api.OK}, {1, 511, api.OK}, {1, 512, api.ErrArg}, {1, 1024, api.ErrArg}, {1, -512, api.ErrArg},
		{1, math.MinInt, api.ErrArg}, {1, math.MaxInt, api.ErrArg}, {1, 1 << 32, api.ErrArg}, {1, 1<<32 + 5, api.ErrArg}, {1, math.MinInt + 5, api.ErrArg},
		{0, 5, api.OK}, {1<<17 - 1, 5, api.OK}, {1 << 17, 5, api.OK}, {1<<17 + 1, 5, api.ErrArg}, {1<<17 + 2, 5, api.OK},
		{1<<18 - 2, 5, api.OK}, {1<<18 - 1, 5, api.ErrArg}, {1<<18 + 2, 5, api.ErrArg}, {1<<18 + 4, 5, api.OK},
		{1000000, 5, api.OK}, {1000001, 5, api.ErrArg}, {1000004, 5, api.ErrArg}, {1000008, 5, api.OK},
		{1 << 63, 5, api.OK}, {1<<63 + 1, 5, api.ErrArg}, {1<<63 + 1<<46, 5, api.ErrArg}, {1<<63 + 1<<47, 5, api.OK},
		{(1<<17 - 1) << 47, 5, api.OK}, {(1<<18 - 1) << 46, 5, api.ErrArg}, {math.MaxUint64, 5, api.ErrArg}, {math.MaxUint64 - 1, 5, api.ErrArg},
	} {
		one := tuple(9, c.rate, c.over)
		hold(t, []wrong{
			{tmmbr(one), c.why}, {tmmbn(one), c.why},
			{tmmbr(append(tuples(5), one)...), c.why}, {tmmbn(append(tuples(5), one)...), c.why},
			{tmmbr(append([]api.Tuple{one}, tuples(5)...)...), c.why}, {tmmbn(append([]api.Tuple{one}, tuples(5)...)...), c.why},
		})
	}
}

func TestRightOfFir(t *testing.T) {
	for n := range 20 {
		for m := range 20 {
			why := api.ErrArg
			if n == m && n >= 1 && n <= 16 {
				why = api.OK
			}
			hold(t, []wrong{{fir(abouts(n), numbers(m)), why}})
		}
	}
	hold(t, []wrong{{fir(make([]uint32, 1<<16+1), make([]int, 1<<16+1)), api.ErrArg}})
	for _, c := range []struct {
		number int
		why    api.Errno
	}{
		{-1, api.ErrArg}, {0, api.OK}, {1, api.OK}, {255, api.OK}, {256, api.ErrArg}, {-256, api.ErrArg}, {1 << 32, api.ErrArg},
		{1<<32 + 7, api.ErrArg}, {math.MinInt, api.ErrArg}, {math.MaxInt, api.ErrArg}, {math.MinInt + 7, api.ErrArg},
	} {
		hold(t, []wrong{
			{fir(abouts(1), []int{c.number}), c.why},
			{fir(abouts(3), []int{1, 2, c.number}), c.why},
			{fir(abouts(3), []int{c.number, 1, 2}), c.why},
			{fir(abouts(16), append(numbers(15), c.number)), c.why},
		})
	}
}

func TestRightOfRemb(t *testing.T) {
	for n := range 20 {
		why := api.ErrArg
		if n <= 16 {
			why = api.OK
		}
		hold(t, []wrong{{remb(1000000, abouts(n)), why}})
	}
	hold(t, []wrong{{remb(0, make([]uint32, 255)), api.ErrArg}, {remb(0, make([]uint32, 256)), api.ErrArg}, {remb(0, make([]uint32, 1<<16)), api.ErrArg}})
	for _, c := range []struct {
		rate uint64
		why  api.Errno
	}{
		{0, api.OK}, {1, api.OK}, {1<<17 + 1, api.OK}, {1<<18 - 1, api.OK}, {1 << 18, api.OK}, {1<<18 + 1, api.ErrArg}, {1<<18 + 2, api.OK},
		{1<<19 - 2, api.OK}, {1<<19 - 1, api.ErrArg}, {1<<19 + 2, api.ErrArg}, {1<<19 + 4, api.OK}, {1000000, api.OK}, {1000001, api.ErrArg}, {1000002, api.ErrArg}, {1000004, api.OK},
		{1 << 63, api.OK}, {1<<63 + 1, api.ErrArg}, {1<<63 + 1<<45, api.ErrArg}, {1<<63 + 1<<46, api.OK},
		{(1<<18 - 1) << 46, api.OK}, {(1<<19 - 1) << 45, api.ErrArg}, {math.MaxUint64, api.ErrArg}, {math.MaxUint64 - 1, api.ErrArg},
	} {
		hold(t, []wrong{{remb(c.rate, nil), c.why}, {remb(c.rate, abouts(16)), c.why}})
	}
}

func TestRightOfOther(t *testing.T) {
	for typ := -2; typ <= 300; typ++ {
		for count := -2; count <= 40; count++ {
			kind := typ == 205 && (count == 3 || count == 4) || typ == 206 && (count == 1 || count == 4 || count == 15)
			why := api.ErrArg
			if typ >= 192 && typ <= 223 && count >= 0 && count <= 31 && !kind {
				why = api.OK
			}
			hold(t, []wrong{{other(typ, count, nil), why}, {other(typ, count, fill(8, 1)), why}})
		}
	}
	for _, n := range []int{math.MinInt, math.MaxInt, 1<<8 + 200, 1<<32 + 200, math.MinInt + 200, -56} {
		hold(t, []wrong{{other(n, 1, nil), api.ErrArg}})
	}
	for _, n := range []int{math.MinInt, math.MaxInt, 1<<5 + 1, 1<<8 + 1, 1<<32 + 1, math.MinInt + 1, -31} {
		hold(t, []wrong{{other(200, n, nil), api.ErrArg}})
	}
	for n := range 40 {
		why := api.ErrArg
		if n%4 == 0 {
			why = api.OK
		}
		hold(t, []wrong{{other(200, 1, zeros(n)), why}})
	}
	for _, c := range []struct {
		n   int
		why api.Errno
	}{
		{4 * 65534, api.OK}, {4*65535 - 1, api.ErrArg}, {4 * 65535, api.OK}, {4*65535 + 1, api.ErrArg}, {4*65535 + 3, api.ErrArg}, {4 * 65536, api.ErrArg}, {8 * 65536, api.ErrArg},
	} {
		if why := rtcp.Right(other(200, 1, zeros(c.n))); why != c.why {
			t.Errorf("P6.1: Right of a Body of %d bytes: %d, want %d", c.n, int(why), int(c.why))
		}
	}
}

// fields are the fields of a report beside its kind, each with a way to make it what it is not when it is nothing.
var fields = map[string]func(r *api.Report){
	"From":    func(r *api.Report) { r.From = 1 << 31 },
	"About":   func(r *api.Report) { r.About = 1 << 31 },
	"Tuples":  func(r *api.Report) { r.Tuples = []api.Tuple{{}} },
	"Abouts":  func(r *api.Report) { r.Abouts = []uint32{0} },
	"Numbers": func(r *api.Report) { r.Numbers = []int{0} },
	"Rate":    func(r *api.Report) { r.Rate = 1 << 63 },
	"Type":    func(r *api.Report) { r.Type = -1 << 40 },
	"Count":   func(r *api.Report) { r.Count = 1 << 40 },
	"Body":    func(r *api.Report) { r.Body = []byte{0} },
}

func TestRightOfFieldsThatAKindHasNot(t *testing.T) {
	has := map[int][]string{
		api.Tmmbr: {"From", "Tuples"}, api.Tmmbn: {"From", "Tuples"}, api.Pli: {"From", "About"},
		api.Fir: {"From", "Abouts", "Numbers"}, api.Remb: {"From", "Rate", "Abouts"}, api.Other: {"Type", "Count", "Body"},
	}
	bad := map[int]api.Report{ // of each kind that has one: a field of its own that may not be
		api.Tmmbr: tmmbr(tuple(1, 1, 512)), api.Tmmbn: tmmbn(tuples(7)...), api.Fir: fir(nil, nil), api.Remb: remb(1<<18+1, nil), api.Other: other(191, 0, nil),
	}
	for _, r := range each() {
		for name, set := range fields {
			if slices.Contains(has[r.Kind], name) {
				continue
			}
			x := r
			set(&x)
			hold(t, []wrong{{x, api.ErrForm}})
			if y, ok := bad[r.Kind]; ok { // what its own fields may not be goes ahead
				set(&y)
				hold(t, []wrong{{y, api.ErrArg}})
			}
		}
		x := r // R4: an empty list is none
		if x.Tuples == nil {
			x.Tuples = make([]api.Tuple, 0, 2)
		}
		if x.Abouts == nil {
			x.Abouts = make([]uint32, 0, 5)
		}
		if x.Numbers == nil {
			x.Numbers = []int{}
		}
		if x.Body == nil {
			x.Body = make([]byte, 0, 3)
		}
		hold(t, []wrong{{x, api.OK}})
		a, _ := rtcp.Bytes([]api.Report{r})
		if b, why := rtcp.Bytes([]api.Report{x}); why != api.OK || !slices.Equal(a, b) {
			t.Errorf("R4: Bytes with empty lists: %v, %d, want %v", b, int(why), a)
		}
	}
}

func TestBytesOfSeveral(t *testing.T) {
	for _, l := range [][]api.Report{nil, {}, each()[:0]} {
		if b, why := rtcp.Bytes(l); why != api.ErrArg || len(b) != 0 {
			t.Errorf("P6.2: Bytes of nothing: %v, %d", b, int(why))
		}
	}
	plis := slices.Repeat([]api.Report{pli(1)}, 200)
	long := other(200, 0, zeros(4*65535))
	arg, form := fir(nil, nil), api.Report{}
	for i, c := range []struct {
		l    []api.Report
		size int
		why  api.Errno
	}{
		{plis[:124], 1488, api.OK}, {plis[:125], 1500, api.OK}, {plis[:126], 0, api.ErrLong}, {plis, 0, api.ErrLong},
		{append(plis[:124:124], other(200, 0, zeros(8))), 1500, api.OK}, {append(plis[:124:124], other(200, 0, zeros(12))), 0, api.ErrLong},
		{[]api.Report{other(200, 0, zeros(1496))}, 1500, api.OK}, {[]api.Report{other(200, 0, zeros(1500))}, 0, api.ErrLong},
		{[]api.Report{other(200, 0, zeros(1492)), other(200, 0, nil)}, 1500, api.OK}, {[]api.Report{other(200, 0, zeros(1496)), other(200, 0, nil)}, 0, api.ErrLong},
		{slices.Repeat([]api.Report{other(192, 0, nil)}, 375), 1500, api.OK}, {slices.Repeat([]api.Report{other(192, 0, nil)}, 376), 0, api.ErrLong},
		{[]api.Report{long}, 0, api.ErrLong}, {[]api.Report{pli(1), long}, 0, api.ErrLong}, {slices.Repeat([]api.Report{long}, 100), 0, api.ErrLong},
		{[]api.Report{arg}, 0, api.ErrArg}, {[]api.Report{form}, 0, api.ErrForm}, {[]api.Report{arg, form}, 0, api.ErrArg}, {[]api.Report{form, arg}, 0, api.ErrForm},
		{[]api.Report{pli(1), arg, form}, 0, api.ErrArg}, {[]api.Report{pli(1), form, arg}, 0, api.ErrForm},
		{append(plis[:126:126], form), 0, api.ErrForm}, {append(plis[:126:126], arg), 0, api.ErrArg}, {[]api.Report{long, arg, form}, 0, api.ErrArg}, // a refusal of Right goes ahead of the limit
	} {
		b, why := rtcp.Bytes(c.l)
		if why != c.why || len(b) != c.size {
			t.Errorf("P6.2: Bytes of several, case %d: %d bytes, %d, want %d, %d", i, len(b), int(why), c.size, int(c.why))
		}
		if why == api.OK {
			if l, why := rtcp.Read(b); why != api.OK || !slices.EqualFunc(l, c.l, rtcp.Same) {
				t.Errorf("P6.3: Read of Bytes, case %d: %d", i, int(why))
			}
		}
	}
}

func TestReadOfWhatIsNone(t *testing.T) {
	one := []byte{0x81, 206, 0, 2, 0, 0, 0, 1, 0, 0, 0, 2}
	for i, c := range []struct {
		b   []byte
		why api.Errno
	}{
		{nil, api.ErrShort}, {[]byte{}, api.ErrShort},
		{zeros(1501), api.ErrLong}, {pack([]byte{0x80, 200, 1, 118}, zeros(1497)), api.ErrLong}, {zeros(1 << 17), api.ErrLong},
		{pack([]byte{0x80, 200, 1, 119}, zeros(1500)), api.ErrLong}, {zeros(1500), api.ErrForm}, {pack([]byte{0x80, 200, 1, 119}, zeros(1496)), api.ErrShort},
		{[]byte{0x80, 200, 255, 255}, api.ErrShort}, {pack([]byte{0x80, 200, 255, 255}, zeros(1496)), api.ErrShort},
		{[]byte{0x00, 200, 0, 0}, api.ErrForm}, {[]byte{0x40, 200, 0, 0}, api.ErrForm}, {[]byte{0xc0, 200, 0, 0}, api.ErrForm}, // another version
		{[]byte{0x01, 206, 0, 2, 0, 0, 0, 1, 0, 0, 0, 2}, api.ErrForm}, {[]byte{0xc1, 206, 0, 2, 0, 0, 0, 1, 0, 0, 0, 2}, api.ErrForm},
		{[]byte{0xa0, 200, 0, 0}, api.ErrForm}, {[]byte{0xa1, 206, 0, 2, 0, 0, 0, 1, 0, 0, 0, 2}, api.ErrForm}, // padding
		{[]byte{0xa0, 200, 0, 1, 0, 0, 0, 4}, api.ErrForm}, {[]byte{0xbf, 223, 0, 0}, api.ErrForm},
		{[]byte{0x80, 191, 0, 0}, api.ErrForm}, {[]byte{0x80, 224, 0, 0}, api.ErrForm}, {[]byte{0x80, 0, 0, 0}, api.ErrForm}, {[]byte{0x80, 255, 0, 0}, api.ErrForm}, {[]byte{0x83, 77, 0, 2, 0, 0, 0, 0, 0, 0, 0, 0}, api.ErrForm},
		{[]byte{0x40}, api.ErrShort}, {[]byte{0x40, 5}, api.ErrShort}, {[]byte{0x40, 5, 0}, api.ErrShort}, {[]byte{0x40, 5, 0, 1, 0, 0, 0}, api.ErrShort}, // what is not all there goes ahead of its form
		{[]byte{0xa1, 206, 0, 2, 0, 0, 0}, api.ErrShort}, {[]byte{0x81, 206, 0, 3, 0, 0, 0, 1, 0, 0, 0, 2}, api.ErrShort},
		{pack(one, []byte{0x80}), api.ErrShort}, {pack(one, zeros(3)), api.ErrShort}, {pack(one, zeros(4)), api.ErrForm}, {pack(one, one[:11]), api.ErrShort},
		{pack([]byte{0x80, 191, 0, 0}, []byte{0x80}), api.ErrForm}, {pack([]byte{0x80, 200, 0, 9}, []byte{0x80, 191, 0, 0}), api.ErrShort}, // the first one that is wrong tells
		{pack(one, []byte{0x80, 191, 0, 0}, one[:5]), api.ErrForm}, {pack(one, one, []byte{0xa0, 200, 0, 0}, one), api.ErrForm},

		{[]byte{0x81, 206, 0, 0}, api.ErrForm}, {[]byte{0x81, 206, 0, 1, 0, 0, 0, 1}, api.ErrForm}, {[]byte{0x81, 206, 0, 3, 0, 0, 0, 1, 0, 0, 0, 2, 0, 0, 0, 0}, api.ErrForm},

		{[]byte{0x83, 205, 0, 0}, api.ErrForm}, {[]byte{0x83, 205, 0, 1, 0, 0, 0, 1}, api.ErrForm}, {[]byte{0x84, 205, 0, 1, 0, 0, 0, 1}, api.ErrForm},
		{pack([]byte{0x83, 205, 0, 3}, zeros(12)), api.ErrForm}, {pack([]byte{0x84, 205, 0, 3}, zeros(12)), api.ErrForm}, {pack([]byte{0x84, 205, 0, 13}, zeros(52)), api.ErrForm},
		{[]byte{0x83, 205, 0, 2, 0, 0, 0, 1, 0, 0, 0, 1}, api.ErrForm}, {[]byte{0x83, 205, 0, 2, 0, 0, 0, 1, 1, 0, 0, 0}, api.ErrForm}, {[]byte{0x84, 205, 0, 2, 0, 0, 0, 1, 0, 1, 0, 0}, api.ErrForm},
		{pack([]byte{0x83, 205, 0, 14}, zeros(56)), api.OK}, {pack([]byte{0x83, 205, 0, 15}, zeros(60)), api.ErrForm}, {pack([]byte{0x83, 205, 0, 16}, zeros(64)), api.ErrForm},
		{pack([]byte{0x84, 205, 0, 14}, zeros(56)), api.OK}, {pack([]byte{0x84, 205, 0, 16}, zeros(64)), api.ErrForm}, {pack([]byte{0x84, 205, 1, 118}, zeros(1496)), api.ErrForm},

		{[]byte{0x84, 206, 0, 0}, api.ErrForm}, {[]byte{0x84, 206, 0, 1, 0, 0, 0, 1}, api.ErrForm}, {pack([]byte{0x84, 206, 0, 2}, zeros(8)), api.ErrForm}, {pack([]byte{0x84, 206, 0, 3}, zeros(12)), api.ErrForm},
		{pack([]byte{0x84, 206, 0, 4}, zeros(16)), api.OK}, {pack([]byte{0x84, 206, 0, 5}, zeros(20)), api.ErrForm}, {pack([]byte{0x84, 206, 0, 34}, zeros(136)), api.OK},
		{pack([]byte{0x84, 206, 0, 35}, zeros(140)), api.ErrForm}, {pack([]byte{0x84, 206, 0, 36}, zeros(144)), api.ErrForm}, {pack([]byte{0x84, 206, 1, 118}, zeros(1496)), api.ErrForm},
		{[]byte{0x84, 206, 0, 4, 0, 0, 0, 1, 0, 0, 0, 1, 0, 0, 0, 7, 5, 0, 0, 0}, api.ErrForm}, {[]byte{0x84, 206, 0, 4, 0, 0, 0, 1, 1, 0, 0, 0, 0, 0, 0, 7, 5, 0, 0, 0}, api.ErrForm},
		{[]byte{0x84, 206, 0, 4, 0, 0, 0, 1, 0, 0, 0, 0, 0, 0, 0, 7, 5, 1, 0, 0}, api.ErrForm}, {[]byte{0x84, 206, 0, 4, 0, 0, 0, 1, 0, 0, 0, 0, 0, 0, 0, 7, 5, 0, 1, 0}, api.ErrForm}, {[]byte{0x84, 206, 0, 4, 0, 0, 0, 1, 0, 0, 0, 0, 0, 0, 0, 7, 5, 0, 0, 1}, api.ErrForm},
		{pack([]byte{0x84, 206, 0, 6, 0, 0, 0, 1, 0, 0, 0, 0, 0, 0, 0, 7, 5, 0, 0, 0}, zeros(7), []byte{128}), api.ErrForm},
	} {
		l, why := rtcp.Read(c.b)
		if why != c.why || (len(l) == 0) != (why != api.OK) {
			t.Errorf("P6.2: Read of what is none, case %d: %v, %d, want %d", i, l, int(why), int(c.why))
		}
	}
}

func TestReadOfNoRemb(t *testing.T) {
	name := []byte("REMB")
	for i, c := range []struct {
		b   []byte
		why api.Errno
	}{
		{pack([]byte{0x8f, 206, 0, 4}, zeros(8), name, zeros(4)), api.OK},
		{[]byte{0x8f, 206, 0, 0}, api.ErrForm}, {pack([]byte{0x8f, 206, 0, 1}, zeros(4)), api.ErrForm}, {pack([]byte{0x8f, 206, 0, 2}, zeros(8)), api.ErrForm},
		{pack([]byte{0x8f, 206, 0, 3}, zeros(8), name), api.ErrForm}, {pack([]byte{0x8f, 206, 0, 5}, zeros(8), name, zeros(8)), api.ErrForm},
		{pack([]byte{0x8f, 206, 0, 5}, zeros(8), name, []byte{1}, zeros(7)), api.OK}, {pack([]byte{0x8f, 206, 0, 4}, zeros(8), name, []byte{1}, zeros(3)), api.ErrForm},
		{pack([]byte{0x8f, 206, 0, 5}, zeros(8), name, []byte{2}, zeros(7)), api.ErrForm}, {pack([]byte{0x8f, 206, 0, 4}, zeros(8), name, []byte{255}, zeros(3)), api.ErrForm},
		{pack([]byte{0x8f, 206, 0, 20}, zeros(8), name, []byte{16}, zeros(67)), api.OK}, {pack([]byte{0x8f, 206, 0, 21}, zeros(8), name, []byte{17}, zeros(71)), api.ErrForm},
		{pack([]byte{0x8f, 206, 1, 3}, zeros(8), name, []byte{255}, zeros(1023)), api.ErrForm}, {pack([]byte{0x8f, 206, 1, 4}, zeros(8), name, zeros(1028)), api.ErrForm}, // 256 of them, as a byte: none
		{pack([]byte{0x8f, 206, 0, 4}, zeros(7), []byte{1}, name, zeros(4)), api.ErrForm}, {pack([]byte{0x8f, 206, 0, 4}, zeros(4), []byte{1}, zeros(3), name, zeros(4)), api.ErrForm},
		{pack([]byte{0x8f, 206, 0, 4}, zeros(8), []byte("remb"), zeros(4)), api.ErrForm}, {pack([]byte{0x8f, 206, 0, 4}, zeros(8), []byte("SEMB"), zeros(4)), api.ErrForm},
		{pack([]byte{0x8f, 206, 0, 4}, zeros(8), []byte("RFMB"), zeros(4)), api.ErrForm}, {pack([]byte{0x8f, 206, 0, 4}, zeros(8), []byte("RENB"), zeros(4)), api.ErrForm},
		{pack([]byte{0x8f, 206, 0, 4}, zeros(8), []byte("REMC"), zeros(4)), api.ErrForm}, {pack([]byte{0x8f, 206, 0, 4}, zeros(16)), api.ErrForm}, {pack([]byte{0x8f, 206, 0, 4}, zeros(8), []byte("BMER"), zeros(4)), api.ErrForm},
	} {
		l, why := rtcp.Read(c.b)
		if why != c.why || (len(l) == 0) != (why != api.OK) {
			t.Errorf("P6.2: Read of a Remb, case %d: %v, %d, want %d", i, l, int(why), int(c.why))
		}
	}
}

// product is man times two to exp; false, if that is above 2^64 - 1.
func product(exp, man uint32) (uint64, bool) {
	n := new(big.Int).Lsh(new(big.Int).SetUint64(uint64(man)), uint(exp))
	return n.Uint64(), n.IsUint64()
}

// TestReadOfEachRate goes through each exponent, with mantissas at their bounds, whether or not they are in their shortest form.
func TestReadOfEachRate(t *testing.T) {
	for exp := range uint32(64) {
		for _, bits := range []int{17, 18} {
			mans := []uint32{0, 1<<bits - 1, 1<<bits - 2}
			for p := range bits {
				mans = append(mans, 1<<p, 1<<p+1, 1<<p-1)
			}
			for _, man := range mans {
				want, ok := product(exp, man)
				if bits == 18 {
					w := exp<<18 | man
					b := pack([]byte{0x8f, 206, 0, 4}, zeros(8), []byte("REMB"), []byte{0, byte(w >> 16), byte(w >> 8), byte(w)})
					holdRate(t, b, api.Report{Kind: api.Remb, Rate: want}, ok)
					continue
				}
				over := man & 511
				w := exp<<26 | man<<9 | over
				b := pack([]byte{0x83, 205, 0, 6}, zeros(16), []byte{0, 0, 0, 9}, []byte{byte(w >> 24), byte(w >> 16), byte(w >> 8), byte(w)})
				r := api.Report{Kind: api.Tmmbr, Tuples: []api.Tuple{{}, tuple(9, want, int(over))}}
				holdRate(t, b, r, ok)
				b[0], r.Kind = 0x84, api.Tmmbn
				holdRate(t, b, r, ok)
			}
		}
	}
}

func holdRate(t *testing.T, b []byte, want api.Report, ok bool) {
	t.Helper()
	l, why := rtcp.Read(b)
	if !ok {
		if why != api.ErrForm || len(l) != 0 {
			t.Errorf("P6.2: Read(%v), of a rate above 2^64 - 1: %v, %d", b, l, int(why))
		}
		return
	}
	if why != api.OK || len(l) != 1 || !rtcp.Same(l[0], want) || rtcp.Right(l[0]) != api.OK {
		t.Errorf("P6.2: Read(%v): %v, %d, want %v", b, l, int(why), want)
	}
}

// TestShortestForm writes anew what was read in a longer form.
func TestShortestForm(t *testing.T) {
	long := pack([]byte{0x8f, 206, 0, 4}, zeros(8), []byte("REMB"), []byte{0, 0x0c, 0, 1}, []byte{0x83, 205, 0, 4}, zeros(8), []byte{0, 0, 0, 5, 8, 0, 6, 9})
	short := pack([]byte{0x8f, 206, 0, 4}, zeros(8), []byte("REMB"), []byte{0, 0, 0, 8}, []byte{0x83, 205, 0, 4}, zeros(8), []byte{0, 0, 0, 5, 0, 0, 24, 9})
	l, why := rtcp.Read(long)
	if why != api.OK || len(l) != 2 || l[0].Rate != 8 || l[1].Tuples[0] != tuple(5, 12, 9) {
		t.Fatalf("P6.2: Read of rates that are not in their shortest form: %v, %d", l, int(why))
	}
	if b, why := rtcp.Bytes(l); why != api.OK || !slices.Equal(b, short) {
		t.Errorf("P6.2: Bytes is not in the shortest form: %v, %d", b, int(why))
	}
}

// number is the bytes' number, the highest first.
func number(b []byte) uint32 {
	var n uint32
	for _, c := range b {
		n = n*256 + uint32(c)
	}
	return n
}

// tell tells by the chapter's words what Read must answer.
func tell(b []byte) ([]api.Report, api.Errno) {
	switch {
	case len(b) > 1500:
		return nil, api.ErrLong
	case len(b) == 0:
		return nil, api.ErrShort
	}
	var l []api.Report
	for len(b) > 0 {
		if len(b) < 4 || len(b) < 4+4*int(number(b[2:4])) {
			return nil, api.ErrShort
		}
		end := 4 + 4*int(number(b[2:4]))
		r, ok := tellOne(b[:end])
		if !ok {
			return nil, api.ErrForm
		}
		l, b = append(l, r), b[end:]
	}
	return l, api.OK
}

func tellOne(b []byte) (api.Report, bool) {
	none := api.Report{}
	if b[0]/64 != 2 || b[0]/32%2 == 1 || b[1] < 192 || b[1] > 223 {
		return none, false
	}
	count, body := b[0]%32, b[4:]
	kinds := map[[2]byte]int{{205, 3}: api.Tmmbr, {205, 4}: api.Tmmbn, {206, 1}: api.Pli, {206, 4}: api.Fir, {206, 15}: api.Remb}
	kind, ok := kinds[[2]byte{b[1], count}]
	if !ok {
		return api.Report{Kind: api.Other, Type: int(b[1]), Count: int(count), Body: body}, true
	}
	if len(body) < 8 || kind != api.Pli && !bytes.Equal(body[4:8], zeros(4)) {
		return none, false
	}
	r := api.Report{Kind: kind, From: number(body[:4])}
	rest := body[8:]
	switch kind {
	case api.Pli:
		r.About = number(body[4:8])
		return r, len(rest) == 0
	case api.Remb:
		return tellRemb(r, rest)
	case api.Fir:
		for ; len(rest) >= 8; rest = rest[8:] {
			if rest[5] != 0 || rest[6] != 0 || rest[7] != 0 {
				return none, false
			}
			r.Abouts, r.Numbers = append(r.Abouts, number(rest[:4])), append(r.Numbers, int(rest[4]))
		}
		return r, len(rest) == 0 && len(r.Abouts) >= 1 && len(r.Abouts) <= 16
	}
	for ; len(rest) >= 8; rest = rest[8:] {
		w := number(rest[4:8])
		n, ok := product(w/(1<<26), w/512%(1<<17))
		if !ok {
			return none, false
		}
		r.Tuples = append(r.Tuples, tuple(number(rest[:4]), n, int(w%512)))
	}
	return r, len(rest) == 0 && len(r.Tuples) <= 6
}

func tellRemb(r api.Report, rest []byte) (api.Report, bool) {
	if len(rest) < 8 || string(rest[:4]) != "REMB" || rest[4] > 16 || len(rest) != 8+4*int(rest[4]) {
		return api.Report{}, false
	}
	w := number(rest[5:8])
	n, ok := product(w/(1<<18), w%(1<<18))
	r.Rate = n
	for rest = rest[8:]; len(rest) > 0; rest = rest[4:] {
		r.Abouts = append(r.Abouts, number(rest[:4]))
	}
	return r, ok
}

func holdRead(t *testing.T, b []byte) {
	t.Helper()
	want, no := tell(b)
	got, why := rtcp.Read(b)
	if why != no || !slices.EqualFunc(got, want, rtcp.Same) {
		if no == api.OK || why != no || len(got) != 0 {
			t.Fatalf("P6.2: Read(%v): %v, %d, want %v, %d", b, got, int(why), want, int(no))
		}
	}
	if why != api.OK {
		return
	}
	for _, r := range got {
		if rtcp.Right(r) != api.OK {
			t.Fatalf("P6.1: Right of what Read(%v) answered: %v, %d", b, r, int(rtcp.Right(r)))
		}
	}
	again, why := rtcp.Bytes(got)
	if why != api.OK || len(again) != len(b) {
		t.Fatalf("P6.2: Bytes of Read(%v): %v, %d", b, again, int(why))
	}
	if l, why := rtcp.Read(again); why != api.OK || !slices.EqualFunc(l, got, rtcp.Same) {
		t.Fatalf("P6.3: Read of Bytes of Read(%v): %v, %d", b, l, int(why))
	}
}

// TestReadOfEachHead holds Read against the chapter's words: each first byte with each Type, with noughts of the lengths about which the kinds differ.
func TestReadOfEachHead(t *testing.T) {
	for first := range 256 {
		for typ := range 256 {
			for _, n := range []int{0, 1, 2, 3, 4, 5, 6, 14, 16, 34, 36} {
				b := zeros(4 + 4*n)
				b[0], b[1], b[3] = byte(first), byte(typ), byte(n)
				holdRead(t, b)
			}
		}
	}
}

// chance is a right report by chance, with what is at the bounds among what is in it.
func chance(r *rand.Rand) api.Report {
	rate := func(bits int) uint64 {
		n := r.Uint64() >> r.Intn(64)
		for p := range 64 {
			if n>>p < 1<<bits {
				return n >> p << p
			}
		}
		return 0
	}
	x := api.Report{Kind: 1 + r.Intn(6), From: r.Uint32()}
	switch x.Kind {
	case api.Tmmbr, api.Tmmbn:
		for range r.Intn(7) {
			x.Tuples = append(x.Tuples, tuple(r.Uint32(), rate(17), r.Intn(512)))
		}
	case api.Pli:
		x.About = r.Uint32()
	case api.Fir:
		for range 1 + r.Intn(16) {
			x.Abouts, x.Numbers = append(x.Abouts, r.Uint32()), append(x.Numbers, r.Intn(256))
		}
	case api.Remb:
		x.Rate = rate(18)
		for range r.Intn(17) {
			x.Abouts = append(x.Abouts, r.Uint32())
		}
	case api.Other:
		x = other(192+r.Intn(32), r.Intn(32), zeros(4*r.Intn(6)))
		if x.Type == 205 || x.Type == 206 {
			x.Count = 16 + r.Intn(16)
		}
		r.Read(x.Body)
	}
	return x
}

func TestReadOfBytes(t *testing.T) {
	r := rand.New(rand.NewSource(6))
	for range 10000 {
		var l []api.Report
		for range 1 + r.Intn(5) {
			l = append(l, chance(r))
		}
		b, why := rtcp.Bytes(l)
		if why != api.OK {
			t.Fatalf("P6.2: Bytes(%v): %d", l, int(why))
		}
		if got, why := rtcp.Read(b); why != api.OK || !slices.EqualFunc(got, l, rtcp.Same) {
			t.Fatalf("P6.3: Read of Bytes(%v): %v, %d", l, got, int(why))
		}
		holdRead(t, b)
		for range 3 { // a bit, a byte, or the end is another one
			c := slices.Clone(b)
			c[r.Intn(len(c))] ^= 1 << r.Intn(8)
			holdRead(t, c)
			c[r.Intn(len(c))] = byte(r.Intn(256))
			holdRead(t, c)
			holdRead(t, c[:r.Intn(len(c))])
		}
	}
}

func TestReadOfChance(t *testing.T) {
	r := rand.New(rand.NewSource(7))
	for range 30000 {
		b := zeros(r.Intn(1 + r.Intn(200)))
		r.Read(b)
		for at := 0; at+4 <= len(b); at += 4 * (1 + r.Intn(5)) {
			b[at], b[at+1], b[at+2], b[at+3] = b[at]&0x1f|0x80, 192+b[at+1]%32, 0, b[at+3]%8
		}
		holdRead(t, b)
	}
}

func TestIs(t *testing.T) {
	for _, b := range [][]byte{nil, {}, {0}, {200}, {0x80}, fill(1, 205)} {
		if rtcp.Is(b) {
			t.Errorf("P6.2: Is(%v): true", b)
		}
	}
	for first := range 256 {
		for second := range 256 {
			want := second >= 192 && second <= 223
			for _, b := range [][]byte{{byte(first), byte(second)}, {byte(first), byte(second), 255}, {byte(first), byte(second), 0, 0, 200, 200}} {
				if rtcp.Is(b) != want {
					t.Errorf("P6.2: Is(%v): %v", b, !want)
				}
			}
		}
	}
	if b := []byte{0x80, 200, 1}; rtcp.Is(b[:1]) {
		t.Error("R5: Is reads behind the end")
	}
	if b := fill(1<<16, 200); !rtcp.Is(b) {
		t.Error("P6.2: Is of what is long: false")
	}
}

// full is a report in which no field is nothing; it may not be.
func full() api.Report {
	return api.Report{
		Kind: 99, From: 1, About: 2, Tuples: []api.Tuple{tuple(1, 2, 3), tuple(4, math.MaxUint64, -6)}, Abouts: []uint32{4, 5},
		Numbers: []int{5, -1}, Rate: 6, Type: -7, Count: 800, Body: []byte{9, 10, 11},
	}
}

func TestSame(t *testing.T) {
	for what, change := range map[string]func(r *api.Report){
		"Kind": func(r *api.Report) { r.Kind++ }, "From": func(r *api.Report) { r.From ^= 1 << 31 }, "About": func(r *api.Report) { r.About ^= 1 << 31 },
		"Rate": func(r *api.Report) { r.Rate ^= 1 << 63 }, "Type": func(r *api.Report) { r.Type += 256 }, "Count": func(r *api.Report) { r.Count += 32 },
		"Owner": func(r *api.Report) { r.Tuples[1].Owner++ }, "a tuple's Rate": func(r *api.Report) { r.Tuples[1].Rate-- }, "Over": func(r *api.Report) { r.Tuples[1].Over += 512 },
		"a tuple less": func(r *api.Report) { r.Tuples = r.Tuples[:1] }, "a tuple more": func(r *api.Report) { r.Tuples = append(r.Tuples, api.Tuple{}) }, "no tuples": func(r *api.Report) { r.Tuples = nil }, "tuples turned": func(r *api.Report) { slices.Reverse(r.Tuples) },
		"an About": func(r *api.Report) { r.Abouts[1]++ }, "an About less": func(r *api.Report) { r.Abouts = r.Abouts[:1] }, "an About more": func(r *api.Report) { r.Abouts = append(r.Abouts, 0) }, "no Abouts": func(r *api.Report) { r.Abouts = nil },
		"a Number": func(r *api.Report) { r.Numbers[1]-- }, "a Number less": func(r *api.Report) { r.Numbers = r.Numbers[:1] }, "a Number more": func(r *api.Report) { r.Numbers = append(r.Numbers, 0) }, "no Numbers": func(r *api.Report) { r.Numbers = nil },
		"a byte": func(r *api.Report) { r.Body[2]++ }, "a byte less": func(r *api.Report) { r.Body = r.Body[:2] }, "a byte more": func(r *api.Report) { r.Body = append(r.Body, 0) }, "no Body": func(r *api.Report) { r.Body = nil },
	} {
		a, b := full(), full()
		change(&b)
		if rtcp.Same(a, b) || rtcp.Same(b, a) {
			t.Errorf("P6.2: Same, with another %s: true", what)
		}
		if !rtcp.Same(b, b) {
			t.Errorf("P6.2: Same, with another %s on both sides: false", what)
		}
	}
	if !rtcp.Same(full(), full()) || !rtcp.Same(api.Report{}, api.Report{}) {
		t.Error("P6.2: Same of the same: false")
	}
	if !rtcp.Same(api.Report{}, api.Report{Tuples: []api.Tuple{}, Abouts: []uint32{}, Numbers: []int{}, Body: []byte{}}) {
		t.Error("R4: Same of nil and of empty lists: false")
	}
}

// over writes over all of a list, its spare room too.
func over[E any](l []E, e E) {
	l = l[:cap(l)]
	for i := range l {
		l[i] = e
	}
}

// overReport writes over each list of r.
func overReport(r api.Report) {
	over(r.Tuples, tuple(99, 99, 99))
	over(r.Abouts, 99)
	over(r.Numbers, 99)
	over(r.Body, 99)
}

// TestMemoryOfRead writes over what was read, and over what was answered, list by list.
func TestMemoryOfRead(t *testing.T) {
	want := each()
	b, _ := rtcp.Bytes(want)
	whole := pack(b, fill(40, 0xee))
	before := slices.Clone(whole)
	l, why := rtcp.Read(whole[:len(b)])
	if why != api.OK || !slices.EqualFunc(l, want, rtcp.Same) || !slices.Equal(whole, before) {
		t.Fatalf("R5: Read: %v, %d", l, int(why))
	}
	over(whole, 0x55)
	if !slices.EqualFunc(l, want, rtcp.Same) {
		t.Errorf("R2: Read keeps what it was handed: %v", l)
	}
	copy(whole, before)
	for i := range l {
		over(l[i].Tuples, tuple(99, 99, 99))
		over(l[i].Numbers, 99)
		if !slices.Equal(l[i].Abouts, want[i].Abouts) || !slices.Equal(l[i].Body, want[i].Body) {
			t.Errorf("R2: two lists of an answer of Read share memory: %v", l[i])
		}
		overReport(l[i])
		if !slices.EqualFunc(l[i+1:], want[i+1:], rtcp.Same) || !slices.Equal(whole, before) {
			t.Errorf("R2: what Read answers shares memory, report %d", i)
		}
	}
	if again, why := rtcp.Read(whole[:len(b)]); why != api.OK || !slices.EqualFunc(again, want, rtcp.Same) {
		t.Errorf("R4: Read anew: %v, %d", again, int(why))
	}
}

// TestMemoryOfBytes hands in lists with room behind them, and writes over what is answered.
func TestMemoryOfBytes(t *testing.T) {
	spare := func() []api.Report {
		l := append(each(), api.Report{Kind: 77}, api.Report{Kind: 78})[:6]
		l[0].Tuples = append(l[0].Tuples, tuple(88, 88, 88))[:2]
		l[3].Abouts = append(l[3].Abouts, 88)[:2]
		l[3].Numbers = append(l[3].Numbers, 88)[:2]
		l[4].Abouts = append(l[4].Abouts, 88)[:3]
		l[5].Body = append(l[5].Body, 88, 88, 88)[:4]
		return l
	}
	l, want := spare(), spare()
	b, why := rtcp.Bytes(l)
	plain, _ := rtcp.Bytes(each())
	if why != api.OK || !slices.Equal(b, plain) {
		t.Errorf("R5: Bytes: %v, %d", b, int(why))
	}
	over(b, 0x55)
	for _, r := range l {
		rtcp.Right(r)
		rtcp.Same(r, full())
	}
	deep := func(r api.Report) api.Report { // with the room behind its lists, as far as spare laid something there
		r.Tuples, r.Abouts, r.Numbers, r.Body = r.Tuples[:min(cap(r.Tuples), len(r.Tuples)+1)], r.Abouts[:min(cap(r.Abouts), len(r.Abouts)+1)], r.Numbers[:min(cap(r.Numbers), len(r.Numbers)+1)], r.Body[:min(cap(r.Body), len(r.Body)+3)]
		return r
	}
	for i := range 8 {
		if !rtcp.Same(deep(l[:8][i]), deep(want[:8][i])) {
			t.Errorf("R2, R5: Bytes changed what it was handed, or shares it: %v", l[i])
		}
	}
	b, _ = rtcp.Bytes(l)
	for _, r := range l {
		overReport(r)
	}
	if !slices.Equal(b, plain) {
		t.Errorf("R2: Bytes keeps what it was handed: %v", b)
	}
	one := []api.Report{other(200, 0, []byte{1, 2, 3, 4})} // alone, so that nothing is behind or ahead of it
	b, _ = rtcp.Bytes(one)
	over(b, 0x55)
	if !slices.Equal(one[0].Body, []byte{1, 2, 3, 4}) {
		t.Errorf("R2: Bytes of one shares its Body: %v", one)
	}
}
