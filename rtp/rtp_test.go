package rtp_test

import (
	"bytes"
	"math"
	"math/rand"
	"slices"
	"testing"

	"limelight/api"
	"limelight/rtp"
)

// pack is bytes in a row; a test's packets are told in the pieces that the chapter tells.
func pack(pieces ...[]byte) []byte {
	return slices.Concat(pieces...)
}

// zeros are the bytes of the head behind the first one.
func zeros() []byte {
	return make([]byte, 11)
}

func fill(n int, c byte) []byte {
	return bytes.Repeat([]byte{c}, n)
}

// full is a packet in which no field is nothing and no two bytes of a field are the same.
func full() api.Rtp {
	return api.Rtp{
		Marker: true, Type: 111, Seq: 0x0102, Time: 0x03040506, Ssrc: 0x0708090a,
		Csrc: []uint32{0x11121314, 0x15161718, 0xfffefdfc}, Profile: 0x2122,
		Ext: []byte{0x31, 0x32, 0x33, 0x34, 0x35, 0x36, 0x37, 0x38}, Payload: []byte{0x41, 0x42, 0x43},
	}
}

func fullBytes() []byte {
	return pack(
		[]byte{0x93, 0xef, 1, 2, 3, 4, 5, 6, 7, 8, 9, 10},
		[]byte{0x11, 0x12, 0x13, 0x14, 0x15, 0x16, 0x17, 0x18, 0xff, 0xfe, 0xfd, 0xfc},
		[]byte{0x21, 0x22, 0, 2, 0x31, 0x32, 0x33, 0x34, 0x35, 0x36, 0x37, 0x38},
		[]byte{0x41, 0x42, 0x43},
	)
}

func isNone(p api.Rtp) bool {
	return rtp.Same(p, api.Rtp{})
}

func TestBytes(t *testing.T) {
	z := zeros()
	for i, c := range []struct {
		p    api.Rtp
		want []byte
	}{
		{api.Rtp{}, pack([]byte{0x80}, z)},
		{api.Rtp{Csrc: []uint32{}, Ext: []byte{}, Payload: []byte{}}, pack([]byte{0x80}, z)},
		{full(), fullBytes()},
		{api.Rtp{Type: 127}, pack([]byte{0x80, 0x7f}, z[1:])},
		{api.Rtp{Type: 127, Marker: true}, pack([]byte{0x80, 0xff}, z[1:])},
		{api.Rtp{Marker: true}, pack([]byte{0x80, 0x80}, z[1:])},
		{api.Rtp{Seq: math.MaxUint16}, pack([]byte{0x80, 0, 255, 255}, z[3:])},
		{api.Rtp{Time: math.MaxUint32}, pack([]byte{0x80, 0, 0, 0, 255, 255, 255, 255}, z[7:])},
		{api.Rtp{Ssrc: math.MaxUint32}, pack([]byte{0x80}, z[4:], fill(4, 255))},
		{api.Rtp{Payload: []byte{0}}, pack([]byte{0x80}, z, []byte{0})},
		{api.Rtp{Csrc: []uint32{5}}, pack([]byte{0x81}, z, []byte{0, 0, 0, 5})},
		{api.Rtp{Csrc: make([]uint32, 15)}, pack([]byte{0x8f}, z, make([]byte, 60))},
		{api.Rtp{Profile: 1}, pack([]byte{0x90}, z, []byte{0, 1, 0, 0})},
		{api.Rtp{Profile: math.MaxUint16, Ext: []byte{}}, pack([]byte{0x90}, z, []byte{255, 255, 0, 0})},
		{api.Rtp{Profile: 1, Ext: fill(1484, 3)}, pack([]byte{0x90}, z, []byte{0, 1, 1, 115}, fill(1484, 3))},
	} {
		got, why := rtp.Bytes(c.p)
		if why != api.OK || !slices.Equal(got, c.want) {
			t.Errorf("P3.1: Bytes, case %d: %v, %d, want %v", i, got, int(why), c.want)
		}
		if rtp.Right(c.p) != api.OK || rtp.Size(c.p) != len(c.want) {
			t.Errorf("P3.1: Right, Size, case %d: %d, %d", i, int(rtp.Right(c.p)), rtp.Size(c.p))
		}
	}
}

func TestBytesOfWhatMayNotBe(t *testing.T) {
	long := make([]byte, 1489)
	for i, c := range []struct {
		p   api.Rtp
		why api.Errno
	}{
		{api.Rtp{Type: 128}, api.ErrArg},
		{api.Rtp{Type: 255}, api.ErrArg},
		{api.Rtp{Type: 256}, api.ErrArg},
		{api.Rtp{Type: -1}, api.ErrArg},
		{api.Rtp{Type: math.MaxInt}, api.ErrArg},
		{api.Rtp{Type: math.MinInt}, api.ErrArg},
		{api.Rtp{Csrc: make([]uint32, 16)}, api.ErrArg},
		{api.Rtp{Csrc: make([]uint32, 1000)}, api.ErrArg},
		{api.Rtp{Profile: 1, Ext: make([]byte, 1)}, api.ErrArg},
		{api.Rtp{Profile: 1, Ext: make([]byte, 2)}, api.ErrArg},
		{api.Rtp{Profile: 1, Ext: make([]byte, 3)}, api.ErrArg},
		{api.Rtp{Profile: 1, Ext: make([]byte, 5)}, api.ErrArg},
		{api.Rtp{Ext: make([]byte, 4)}, api.ErrArg},
		{api.Rtp{Ext: make([]byte, 1)}, api.ErrArg},
		{api.Rtp{Payload: long}, api.ErrLong},
		{api.Rtp{Profile: 1, Payload: long[:1485]}, api.ErrLong},
		{api.Rtp{Csrc: make([]uint32, 15), Payload: long[:1429]}, api.ErrLong},
		{api.Rtp{Profile: 1, Ext: long[:1488]}, api.ErrLong},
		{api.Rtp{Profile: 1, Ext: long[:1484], Payload: long[:1]}, api.ErrLong},
		{api.Rtp{Profile: 1, Ext: make([]byte, 4*(1<<16))}, api.ErrLong},
		{api.Rtp{Payload: make([]byte, 1<<20)}, api.ErrLong},
		{api.Rtp{Type: 128, Payload: long}, api.ErrArg},
		{api.Rtp{Csrc: make([]uint32, 16), Payload: long}, api.ErrArg},
		{api.Rtp{Profile: 1, Ext: make([]byte, 1501)}, api.ErrArg},
		{api.Rtp{Ext: make([]byte, 1504)}, api.ErrArg},
	} {
		if got, why := rtp.Bytes(c.p); why != c.why || len(got) != 0 {
			t.Errorf("P3.1: Bytes, case %d: %v, %d, want %d", i, got, int(why), int(c.why))
		}
		if rtp.Right(c.p) != c.why || rtp.Size(c.p) != 0 {
			t.Errorf("P3.1: Right, Size, case %d: %d, %d, want %d, 0", i, int(rtp.Right(c.p)), rtp.Size(c.p), int(c.why))
		}
	}
}

// TestReadOfBytes goes through packets whose parts are at their bounds, up to the limit and above it.
func TestReadOfBytes(t *testing.T) {
	for _, csrc := range []int{0, 1, 2, 14, 15} {
		for _, ext := range []int{-1, 0, 4, 8, 1420, 1424, 1484} {
			for _, payload := range []int{0, 1, 255, 1487, 1488, 1489, -1, -2} {
				p := api.Rtp{Marker: csrc%2 == 0, Type: csrc * 8, Seq: 0xfffe, Time: 1 << 31, Ssrc: 77}
				room := 1488 - 4*csrc
				for i := range csrc {
					p.Csrc = append(p.Csrc, uint32(i)<<28|5)
				}
				if ext >= 0 {
					p.Profile, p.Ext, room = 0xbede, fill(ext, 9), room-4-ext
				}
				if payload < 0 { // -1: all of the room, -2: one above it
					payload = max(room-1-payload, 0)
				}
				p.Payload = fill(payload, 7)
				holdReadOfBytes(t, p, room-payload >= 0)
			}
		}
	}
	holdReadOfBytes(t, full(), true)
}

func holdReadOfBytes(t *testing.T, p api.Rtp, fits bool) {
	t.Helper()
	b, why := rtp.Bytes(p)
	if !fits {
		if why != api.ErrLong || len(b) != 0 || rtp.Size(p) != 0 {
			t.Errorf("P3.1: Bytes of %d, %d, %d: %d", len(p.Csrc), len(p.Ext), len(p.Payload), int(why))
		}
		return
	}
	if why != api.OK || rtp.Size(p) != len(b) {
		t.Errorf("P3.1: Bytes, Size of %d, %d, %d: %d, %d", len(p.Csrc), len(p.Ext), len(p.Payload), int(why), rtp.Size(p))
	}
	if q, why := rtp.Read(b); why != api.OK || !rtp.Same(p, q) {
		t.Errorf("P3.2: Read of Bytes of %d, %d, %d: %d", len(p.Csrc), len(p.Ext), len(p.Payload), int(why))
	}
}

func TestReadOfEachTypeAndCount(t *testing.T) {
	for n := range 128 {
		for _, m := range []bool{false, true} {
			p := api.Rtp{Marker: m, Type: n, Seq: uint16(n) << 9, Csrc: make([]uint32, n%16), Payload: fill(n, byte(n))}
			holdReadOfBytes(t, p, true)
		}
	}
}

func TestRead(t *testing.T) {
	z := zeros()
	p, why := rtp.Read(fullBytes())
	if why != api.OK || !rtp.Same(p, full()) {
		t.Errorf("P3.1: Read: %v, %d", p, int(why))
	}
	for i, c := range []struct {
		b    []byte
		want api.Rtp
	}{
		{pack([]byte{0x80}, z), api.Rtp{}},
		{pack([]byte{0x80, 0xff}, z[1:]), api.Rtp{Type: 127, Marker: true}},
		{pack([]byte{0x80, 0x80}, z[1:]), api.Rtp{Marker: true}},
		{pack([]byte{0x80, 0x7f}, z[1:]), api.Rtp{Type: 127}},
		{pack([]byte{0x80}, z, []byte{0}), api.Rtp{Payload: []byte{0}}},
		{pack([]byte{0x82}, z, []byte{0, 0, 0, 1, 255, 0, 0, 0}), api.Rtp{Csrc: []uint32{1, 0xff000000}}},
		{pack([]byte{0x8f}, z, make([]byte, 60)), api.Rtp{Csrc: make([]uint32, 15)}},
		{pack([]byte{0x90}, z, []byte{1, 0, 0, 0}), api.Rtp{Profile: 256}},
		{pack([]byte{0x90}, z, []byte{0, 1, 0, 0, 6}), api.Rtp{Profile: 1, Payload: []byte{6}}},
		{pack([]byte{0x90}, z, []byte{0, 1, 0, 1, 2, 3, 4, 5, 6}), api.Rtp{Profile: 1, Ext: []byte{2, 3, 4, 5}, Payload: []byte{6}}},
		{pack([]byte{0x90}, z, []byte{0, 1, 1, 0}, fill(1025, 8)), api.Rtp{Profile: 1, Ext: fill(1024, 8), Payload: []byte{8}}},
		{pack([]byte{0x80}, z, make([]byte, 1488)), api.Rtp{Payload: make([]byte, 1488)}},
		{pack([]byte{0x90}, z, []byte{0, 1, 1, 115}, fill(1484, 3)), api.Rtp{Profile: 1, Ext: fill(1484, 3)}},
	} {
		if got, why := rtp.Read(c.b); why != api.OK || !rtp.Same(got, c.want) {
			t.Errorf("P3.1: Read, case %d: %v, %d", i, got, int(why))
		}
	}
}

func TestReadOfPadding(t *testing.T) {
	z := zeros()
	for i, c := range []struct {
		b    []byte
		want api.Rtp
		why  api.Errno
	}{
		{pack([]byte{0xa0}, z), api.Rtp{}, api.ErrShort},
		{pack([]byte{0xa0}, z[1:], []byte{1}), api.Rtp{}, api.ErrShort}, // what looks like the number is of the head
		{pack([]byte{0xa0}, z, []byte{0}), api.Rtp{}, api.ErrShort},
		{pack([]byte{0xa0}, z, []byte{1}), api.Rtp{}, api.OK},
		{pack([]byte{0xa0}, z, []byte{2}), api.Rtp{}, api.ErrShort},
		{pack([]byte{0xa0}, z, []byte{9, 0}), api.Rtp{}, api.ErrShort},
		{pack([]byte{0xa0}, z, []byte{9, 1}), api.Rtp{Payload: []byte{9}}, api.OK},
		{pack([]byte{0xa0}, z, []byte{9, 2}), api.Rtp{}, api.OK},
		{pack([]byte{0xa0}, z, []byte{9, 3}), api.Rtp{}, api.ErrShort},
		{pack([]byte{0xa0}, z, []byte{7, 8, 77, 2}), api.Rtp{Payload: []byte{7, 8}}, api.OK}, // the bytes ahead of the number may be any
		{pack([]byte{0xa0}, z, fill(255, 255)), api.Rtp{}, api.OK},
		{pack([]byte{0xa0}, z, fill(254, 255)), api.Rtp{}, api.ErrShort},
		{pack([]byte{0xa0}, z, fill(256, 255)), api.Rtp{Payload: []byte{255}}, api.OK},
		{pack([]byte{0xa0}, z, fill(1488, 200)), api.Rtp{Payload: fill(1288, 200)}, api.OK},
		{pack([]byte{0xa1}, z, []byte{0, 0, 0, 1}), api.Rtp{}, api.ErrShort}, // of the Csrc
		{pack([]byte{0xa1}, z, []byte{0, 0, 0, 1, 1}), api.Rtp{Csrc: []uint32{1}}, api.OK},
		{pack([]byte{0xa1}, z, []byte{0, 0, 0, 1, 2}), api.Rtp{}, api.ErrShort},
		{pack([]byte{0xb0}, z, []byte{0, 1, 0, 1, 0, 0, 0, 1}), api.Rtp{}, api.ErrShort}, // of the extension
		{pack([]byte{0xb0}, z, []byte{0, 1, 0, 1, 0, 0, 0, 1, 1}), api.Rtp{Profile: 1, Ext: []byte{0, 0, 0, 1}}, api.OK},
		{pack([]byte{0xb0}, z, []byte{0, 1, 0, 1, 0, 0, 0, 1, 5, 6, 2}), api.Rtp{Profile: 1, Ext: []byte{0, 0, 0, 1}, Payload: []byte{5}}, api.OK},
		{pack([]byte{0xb0}, z, []byte{0, 1, 0, 1, 0, 0, 0, 1, 5, 6, 4}), api.Rtp{}, api.ErrShort},
	} {
		if got, why := rtp.Read(c.b); why != c.why || !rtp.Same(got, c.want) {
			t.Errorf("P3.1: Read of padding, case %d: %v, %d, want %d", i, got, int(why), int(c.why))
		}
	}
}

func TestReadOfWhatIsNone(t *testing.T) {
	z := zeros()
	for i, c := range []struct {
		b   []byte
		why api.Errno
	}{
		{nil, api.ErrShort},
		{[]byte{}, api.ErrShort},
		{pack([]byte{0x40}, z), api.ErrForm},
		{pack([]byte{0xc0}, z), api.ErrForm},
		{pack([]byte{0x00}, z), api.ErrForm},
		{[]byte{0x40}, api.ErrForm}, // another version goes ahead of what is not all there
		{[]byte{0x7f, 1, 2}, api.ErrForm},
		{[]byte{0x80}, api.ErrShort},
		{pack([]byte{0x80}, z[1:]), api.ErrShort},
		{pack([]byte{0x81}, z), api.ErrShort},
		{pack([]byte{0x81}, z, []byte{1, 2, 3}), api.ErrShort},
		{pack([]byte{0x8f}, z, make([]byte, 59)), api.ErrShort},
		{pack([]byte{0x90}, z), api.ErrShort},
		{pack([]byte{0x90}, z, []byte{0, 1}), api.ErrShort},
		{pack([]byte{0x90}, z, []byte{0, 1, 0}), api.ErrShort},
		{pack([]byte{0x90}, z, []byte{0, 1, 0, 1}), api.ErrShort},
		{pack([]byte{0x90}, z, []byte{0, 1, 0, 1, 2, 3, 4}), api.ErrShort},
		{pack([]byte{0x90}, z, []byte{0, 1, 255, 255}, make([]byte, 1484)), api.ErrShort},
		{pack([]byte{0x91}, z, []byte{0, 0, 0, 5, 0, 1, 0}), api.ErrShort},
		{pack([]byte{0x90}, z, []byte{0, 0, 0, 0}), api.ErrForm},
		{pack([]byte{0x90}, z, []byte{0, 0, 0, 1, 2, 3, 4, 5}), api.ErrForm},
		{pack([]byte{0x90}, z, []byte{0, 0, 0, 1, 2, 3, 4}), api.ErrShort}, // what is not all there goes ahead of a Profile of 0
		{pack([]byte{0xb0}, z, []byte{0, 0, 0, 0, 0}), api.ErrShort},
		{pack([]byte{0xb0}, z, []byte{0, 0, 0, 0, 2}), api.ErrShort},
		{pack([]byte{0xb0}, z, []byte{0, 0, 0, 0, 1}), api.ErrForm},
		{pack([]byte{0x80}, make([]byte, 1500)), api.ErrLong},
		{make([]byte, 1501), api.ErrLong}, // the limit goes ahead of another version
		{make([]byte, 1500), api.ErrForm},
		{fill(1<<16, 0x80), api.ErrLong},
		{pack([]byte{0xa0}, z, fill(1489, 255)), api.ErrLong}, // padding counts
	} {
		if got, why := rtp.Read(c.b); why != c.why || !isNone(got) {
			t.Errorf("P3.1: Read of what is none, case %d: %v, %d, want %d", i, got, int(why), int(c.why))
		}
	}
	b := fullBytes()
	for n := range 36 { // up to the payload
		if got, why := rtp.Read(b[:n]); why != api.ErrShort || !isNone(got) {
			t.Errorf("P3.1: Read of the first %d bytes: %v, %d", n, got, int(why))
		}
	}
}

// told tells by the chapter's words, part by part, what Read must answer.
func told(b []byte) (api.Rtp, api.Errno) {
	if len(b) > 1500 {
		return api.Rtp{}, api.ErrLong
	}
	if len(b) == 0 {
		return api.Rtp{}, api.ErrShort
	}
	if b[0]/64 != 2 {
		return api.Rtp{}, api.ErrForm
	}
	rest := b
	next := func(n int) (l []byte, ok bool) {
		if n > len(rest) {
			return nil, false
		}
		l, rest = rest[:n], rest[n:]
		return l, true
	}
	be := func(l []byte) (n uint32) {
		for _, c := range l {
			n = n*256 + uint32(c)
		}
		return n
	}
	h, ok := next(12)
	if !ok {
		return api.Rtp{}, api.ErrShort
	}
	p := api.Rtp{Marker: h[1] >= 128, Type: int(h[1]) % 128, Seq: uint16(be(h[2:4])), Time: be(h[4:8]), Ssrc: be(h[8:12])}
	for range b[0] % 16 {
		c, ok := next(4)
		if !ok {
			return api.Rtp{}, api.ErrShort
		}
		p.Csrc = append(p.Csrc, be(c))
	}
	extended, padded := b[0]/16%2 == 1, b[0]/32%2 == 1
	if extended {
		x, ok := next(4)
		if !ok {
			return api.Rtp{}, api.ErrShort
		}
		p.Profile = uint16(be(x[:2]))
		if p.Ext, ok = next(4 * int(be(x[2:]))); !ok {
			return api.Rtp{}, api.ErrShort
		}
	}
	p.Payload = rest
	if padded {
		if len(rest) == 0 {
			return api.Rtp{}, api.ErrShort
		}
		n := int(rest[len(rest)-1])
		if n == 0 || n > len(rest) {
			return api.Rtp{}, api.ErrShort
		}
		p.Payload = rest[:len(rest)-n]
	}
	if extended && p.Profile == 0 {
		return api.Rtp{}, api.ErrForm
	}
	return p, api.OK
}

// TestReadOfAny holds Read against the chapter's words: each first byte, with each length to 90, and small numbers behind it.
func TestReadOfAny(t *testing.T) {
	r := rand.New(rand.NewSource(3))
	for first := range 256 {
		for n := 1; n <= 90; n++ {
			for range 8 {
				b := make([]byte, n)
				for i := range b {
					b[i] = byte(r.Intn(1 + r.Intn(9)))
				}
				b[0] = byte(first)
				holdRead(t, b)
			}
		}
	}
}

func TestReadOfChance(t *testing.T) {
	r := rand.New(rand.NewSource(4))
	for range 20000 {
		b := make([]byte, r.Intn(1+r.Intn(1600)))
		r.Read(b)
		if len(b) > 0 {
			b[0] = b[0]&0x3f | 0x80
		}
		holdRead(t, b)
	}
}

func holdRead(t *testing.T, b []byte) {
	t.Helper()
	want, no := told(b)
	got, why := rtp.Read(b)
	if why != no || !rtp.Same(got, want) {
		t.Fatalf("P3.1: Read(%v): %v, %d, want %v, %d", b, got, int(why), want, int(no))
	}
	if why != api.OK {
		return
	}
	again, no := rtp.Bytes(got)
	if no != api.OK || rtp.Right(got) != api.OK || rtp.Size(got) != len(again) {
		t.Fatalf("P3.1: Bytes of Read(%v): %d", b, int(no))
	}
	if b[0]&0x20 == 0 && !slices.Equal(again, b) {
		t.Fatalf("P3.2: Bytes of Read(%v): %v", b, again)
	}
	if p, no := rtp.Read(again); no != api.OK || !rtp.Same(p, got) {
		t.Fatalf("P3.2: Read of Bytes of Read(%v): %v", b, p)
	}
}

func TestSame(t *testing.T) {
	for what, change := range map[string]func(p *api.Rtp){
		"Marker":          func(p *api.Rtp) { p.Marker = false },
		"Type":            func(p *api.Rtp) { p.Type = 110 },
		"Type by 128":     func(p *api.Rtp) { p.Type += 128 },
		"Seq":             func(p *api.Rtp) { p.Seq ^= 1 << 15 },
		"Time":            func(p *api.Rtp) { p.Time ^= 1 << 31 },
		"Ssrc":            func(p *api.Rtp) { p.Ssrc ^= 1 << 31 },
		"one Csrc":        func(p *api.Rtp) { p.Csrc[2]++ },
		"a Csrc less":     func(p *api.Rtp) { p.Csrc = p.Csrc[:2] },
		"no Csrc":         func(p *api.Rtp) { p.Csrc = nil },
		"Csrc turned":     func(p *api.Rtp) { slices.Reverse(p.Csrc) },
		"Profile":         func(p *api.Rtp) { p.Profile++ },
		"no Profile":      func(p *api.Rtp) { p.Profile = 0 },
		"one byte of Ext": func(p *api.Rtp) { p.Ext[7]++ },
		"Ext shorter":     func(p *api.Rtp) { p.Ext = p.Ext[:4] },
		"no Ext":          func(p *api.Rtp) { p.Ext = nil },
		"Ext longer":      func(p *api.Rtp) { p.Ext = append(p.Ext, 0) },
		"one byte":        func(p *api.Rtp) { p.Payload[0]++ },
		"Payload shorter": func(p *api.Rtp) { p.Payload = p.Payload[:2] },
		"Payload longer":  func(p *api.Rtp) { p.Payload = append(p.Payload, 0) },
		"no Payload":      func(p *api.Rtp) { p.Payload = nil },
		"a byte moved":    func(p *api.Rtp) { p.Ext, p.Payload = p.Ext[:7], append([]byte{0x38}, p.Payload...) },
	} {
		a, b := full(), full()
		change(&b)
		if rtp.Same(a, b) || rtp.Same(b, a) {
			t.Errorf("P3.1: Same, with another %s: true", what)
		}
		if !rtp.Same(b, b) {
			t.Errorf("P3.1: Same, with another %s on both sides: false", what)
		}
	}
	if !rtp.Same(full(), full()) || !rtp.Same(api.Rtp{}, api.Rtp{}) {
		t.Error("P3.1: Same of the same: false")
	}
	if !rtp.Same(api.Rtp{Csrc: []uint32{}, Ext: []byte{}, Payload: []byte{}}, api.Rtp{}) {
		t.Error("R4: Same of nil and of empty lists: false")
	}
}

func TestSameOfWhatMayNotBe(t *testing.T) {
	odd := func() api.Rtp {
		return api.Rtp{Type: -5, Csrc: make([]uint32, 20), Ext: []byte{1, 2, 3}, Payload: make([]byte, 3000)}
	}
	if !rtp.Same(odd(), odd()) {
		t.Error("P3.1: Same of a packet that may not be: false")
	}
	b := odd()
	b.Payload[2999] = 1
	if rtp.Same(odd(), b) || rtp.Same(odd(), api.Rtp{}) {
		t.Error("P3.1: Same of two packets that may not be: true")
	}
}

// TestMemory lays each list into greater memory and writes over what is answered.
func TestMemory(t *testing.T) {
	csrc := []uint32{1, 2, 3, 4, 5, 6}
	ext := []byte{1, 2, 3, 4, 5, 6, 7, 8, 0xee, 0xee}
	payload := []byte{9, 9, 0xee, 0xee, 0xee}
	p := api.Rtp{Csrc: csrc[:2], Profile: 5, Ext: ext[:8], Payload: payload[:2]}
	b, _ := rtp.Bytes(p)
	want := pack([]byte{0x92}, zeros(), []byte{0, 0, 0, 1, 0, 0, 0, 2, 0, 5, 0, 2, 1, 2, 3, 4, 5, 6, 7, 8, 9, 9})
	if !slices.Equal(b, want) {
		t.Errorf("R5: Bytes: %v", b)
	}
	over(b)
	rtp.Right(p)
	rtp.Size(p)
	rtp.Same(p, full())
	if !slices.Equal(csrc, []uint32{1, 2, 3, 4, 5, 6}) || !slices.Equal(ext, []byte{1, 2, 3, 4, 5, 6, 7, 8, 0xee, 0xee}) || !slices.Equal(payload, []byte{9, 9, 0xee, 0xee, 0xee}) {
		t.Errorf("R2, R5: Bytes changed what it was handed, or shares it: %v, %v, %v", csrc, ext, payload)
	}
	whole := append(slices.Clone(want), fill(40, 0xee)...)
	before := slices.Clone(whole)
	q, why := rtp.Read(whole[:len(want)])
	if why != api.OK || !rtp.Same(p, q) {
		t.Errorf("R5: Read: %v, %d", q, int(why))
	}
	over(q.Payload)
	if !slices.Equal(q.Ext, ext[:8]) || !slices.Equal(whole, before) {
		t.Errorf("R2: Read shares its payload")
	}
	over(q.Ext)
	if !slices.Equal(whole, before) {
		t.Errorf("R2, R5: Read changed what it was handed, or shares it: %v", whole)
	}
}

// over writes over all of a list, its spare room too.
func over(b []byte) {
	b = b[:cap(b)]
	for i := range b {
		b[i] = 0x55
	}
}

// TestReadKeepsNone writes over a datagram after it was read.
func TestReadKeepsNone(t *testing.T) {
	b := fullBytes()
	p, _ := rtp.Read(b)
	over(b)
	if !rtp.Same(p, full()) {
		t.Errorf("R2: Read keeps what it was handed: %v", p)
	}
	q := full()
	b, _ = rtp.Bytes(q)
	over(q.Ext)
	over(q.Payload)
	if !slices.Equal(b, fullBytes()) {
		t.Errorf("R2: Bytes keeps what it was handed: %v", b)
	}
}
