package ext_test

import (
	"bytes"
	"math"
	"math/rand"
	"slices"
	"strings"
	"testing"

	"limelight/api"
	"limelight/ext"
)

func elem(id int, data string) api.Elem {
	return api.Elem{ID: id, Data: []byte(data)}
}

func elems(l ...api.Elem) []api.Elem {
	return l
}

func same(a, b []api.Elem) bool {
	return slices.EqualFunc(a, b, func(x, y api.Elem) bool {
		return x.ID == y.ID && bytes.Equal(x.Data, y.Data)
	})
}

// xs is a text of n bytes.
func xs(n int) string {
	return strings.Repeat("x", n)
}

var profiles = []uint16{ext.One, ext.Two}

// neither are profiles beside the two: near them, with their bytes turned, at the bounds, RFC 8285's other ones of Two.
var neither = []uint16{0, 1, 0xbedd, 0xbedf, 0xdebe, 0xbe00, 0x00de, 0x0fff, 0x1001, 0x100f, 0x0010, 0x2000, 0x8000, math.MaxUint16}

func TestNumbers(t *testing.T) {
	if ext.One != 0xbede || ext.Two != 0x1000 {
		t.Errorf("P4.1: One, Two: %#x, %#x", ext.One, ext.Two)
	}
}

func TestBytes(t *testing.T) {
	for i, c := range []struct {
		profile uint16
		l       []api.Elem
		want    string
	}{
		{ext.One, nil, ""},
		{ext.One, elems(), ""},
		{ext.One, elems(elem(1, "a")), "\x10a\x00\x00"},
		{ext.One, elems(elem(1, "ab")), "\x11ab\x00"},
		{ext.One, elems(elem(1, "abc")), "\x12abc"},
		{ext.One, elems(elem(1, "abcd")), "\x13abcd\x00\x00\x00"},
		{ext.One, elems(elem(14, "a")), "\xe0a\x00\x00"},
		{ext.One, elems(elem(14, xs(16))), "\xef" + xs(16) + "\x00\x00\x00"},
		{ext.One, elems(elem(9, xs(15))), "\x9e" + xs(15)},
		{ext.One, elems(elem(3, "ab"), elem(2, "c"), elem(3, "d")), "\x31ab\x20c\x30d\x00"},
		{ext.One, elems(elem(1, "\x00"), elem(2, "\xff\x00")), "\x10\x00\x21\xff\x00\x00\x00\x00"},
		{ext.One, slices.Repeat(elems(elem(7, "a")), 8), strings.Repeat("\x70a", 8)},
		{ext.Two, nil, ""},
		{ext.Two, elems(), ""},
		{ext.Two, elems(elem(1, "")), "\x01\x00\x00\x00"},
		{ext.Two, elems(elem(1, "a")), "\x01\x01a\x00"},
		{ext.Two, elems(elem(1, "ab")), "\x01\x02ab"},
		{ext.Two, elems(elem(1, "abc")), "\x01\x03abc\x00\x00\x00"},
		{ext.Two, elems(elem(255, "")), "\xff\x00\x00\x00"},
		{ext.Two, elems(elem(255, xs(255))), "\xff\xff" + xs(255) + "\x00\x00\x00"},
		{ext.Two, elems(elem(15, xs(254))), "\x0f\xfe" + xs(254)},
		{ext.Two, elems(elem(16, xs(17))), "\x10\x11" + xs(17) + "\x00"},
		{ext.Two, elems(elem(3, "ab"), elem(2, ""), elem(3, "d")), "\x03\x02ab\x02\x00\x03\x01d\x00\x00\x00"},
		{ext.Two, slices.Repeat(elems(elem(5, "")), 8), strings.Repeat("\x05\x00", 8)},
		{ext.Two, slices.Repeat(elems(elem(5, xs(255))), 8), strings.Repeat("\x05\xff"+xs(255), 8)},
	} {
		got, why := ext.Bytes(c.profile, c.l)
		if why != api.OK || string(got) != c.want {
			t.Errorf("P4.1: Bytes, case %d: %q, %d, want %q", i, got, int(why), c.want)
		}
	}
}

func TestBytesOfWhatMayNotBe(t *testing.T) {
	good := elem(1, "a")
	for i, c := range []struct {
		profile uint16
		l       []api.Elem
		why     api.Errno
	}{
		{ext.One, elems(elem(0, "a")), api.ErrArg},
		{ext.One, elems(elem(15, "a")), api.ErrArg},
		{ext.One, elems(elem(16, "a")), api.ErrArg},
		{ext.One, elems(elem(17, "a")), api.ErrArg},
		{ext.One, elems(elem(255, "a")), api.ErrArg},
		{ext.One, elems(elem(257, "a")), api.ErrArg},
		{ext.One, elems(elem(-1, "a")), api.ErrArg},
		{ext.One, elems(elem(math.MaxInt, "a")), api.ErrArg},
		{ext.One, elems(elem(math.MinInt, "a")), api.ErrArg},
		{ext.One, elems(elem(math.MinInt+1, "a")), api.ErrArg},
		{ext.One, elems(elem(1, "")), api.ErrArg},
		{ext.One, elems(api.Elem{ID: 1}), api.ErrArg},
		{ext.One, elems(api.Elem{}), api.ErrArg},
		{ext.One, elems(elem(1, xs(17))), api.ErrArg},
		{ext.One, elems(elem(1, xs(255))), api.ErrArg},
		{ext.One, elems(elem(1, xs(257))), api.ErrArg},
		{ext.One, elems(good, good, elem(15, "a")), api.ErrArg},
		{ext.One, elems(elem(1, ""), good), api.ErrArg},
		{ext.One, append(slices.Repeat(elems(good), 7), elem(1, xs(17))), api.ErrArg},
		{ext.Two, elems(elem(0, "a")), api.ErrArg},
		{ext.Two, elems(elem(0, "")), api.ErrArg},
		{ext.Two, elems(elem(256, "a")), api.ErrArg},
		{ext.Two, elems(elem(257, "a")), api.ErrArg},
		{ext.Two, elems(elem(-1, "a")), api.ErrArg},
		{ext.Two, elems(elem(-255, "a")), api.ErrArg},
		{ext.Two, elems(elem(math.MaxInt, "a")), api.ErrArg},
		{ext.Two, elems(elem(math.MinInt+1, "a")), api.ErrArg},
		{ext.Two, elems(elem(1, xs(256))), api.ErrArg},
		{ext.Two, elems(elem(1, xs(257))), api.ErrArg},
		{ext.Two, elems(elem(1, xs(1<<16))), api.ErrArg},
		{ext.Two, elems(good, elem(1, xs(256))), api.ErrArg},
		{ext.One, slices.Repeat(elems(good), 9), api.ErrLong},
		{ext.Two, slices.Repeat(elems(good), 9), api.ErrLong},
		{ext.Two, slices.Repeat(elems(good), 1000), api.ErrLong},
		{ext.One, make([]api.Elem, 9), api.ErrLong}, // the limit goes ahead of an element that may not be
		{ext.Two, make([]api.Elem, 9), api.ErrLong},
		{ext.One, make([]api.Elem, 8), api.ErrArg},
	} {
		if got, why := ext.Bytes(c.profile, c.l); why != c.why || len(got) != 0 {
			t.Errorf("P4.1: Bytes of what may not be, case %d: %q, %d, want %d", i, got, int(why), int(c.why))
		}
	}
}

// TestOfNeitherProfile holds that the profile goes ahead of all else.
func TestOfNeitherProfile(t *testing.T) {
	for _, profile := range neither {
		for i, l := range [][]api.Elem{nil, elems(elem(1, "a")), elems(elem(0, "")), make([]api.Elem, 9)} {
			if b, why := ext.Bytes(profile, l); why != api.ErrArg || len(b) != 0 {
				t.Errorf("P4.1: Bytes of profile %#x, list %d: %q, %d", profile, i, b, int(why))
			}
		}
		for _, b := range []string{"", "\x00", "\x10a", "\x10", strings.Repeat("\x10a", 9)} {
			if l, why := ext.Read(profile, []byte(b)); why != api.ErrArg || len(l) != 0 {
				t.Errorf("P4.1: Read of profile %#x, %q: %v, %d", profile, b, l, int(why))
			}
		}
		for _, b := range []string{"", "\x11hi\x00", "\x01\x02hi"} {
			if s, ok := ext.Rid(api.Rtp{Profile: profile, Ext: []byte(b)}); ok || s != "" {
				t.Errorf("P4.1: Rid of profile %#x, %q: %q, %v", profile, b, s, ok)
			}
		}
	}
}

func TestReadOfOne(t *testing.T) {
	for i, c := range []struct {
		b    string
		want []api.Elem
		why  api.Errno
	}{
		{"", nil, api.OK},
		{"\x00", nil, api.OK},
		{"\x00\x00\x00\x00", nil, api.OK},
		{"\x10a", elems(elem(1, "a")), api.OK},
		{"\xe0a", elems(elem(14, "a")), api.OK},
		{"\xef" + xs(16), elems(elem(14, xs(16))), api.OK},
		{"\x1f" + xs(16) + "\x20y", elems(elem(1, xs(16)), elem(2, "y")), api.OK},
		{"\x10a\x20b\x10c", elems(elem(1, "a"), elem(2, "b"), elem(1, "c")), api.OK},
		{"\x10\x00\x20\xff", elems(elem(1, "\x00"), elem(2, "\xff")), api.OK},
		// noughts ahead, between and behind
		{"\x00\x10a", elems(elem(1, "a")), api.OK},
		{"\x00\x00\x00\x10a\x00\x00\x21bc\x00\x00\x00\x00\x00", elems(elem(1, "a"), elem(2, "bc")), api.OK},
		// what ends it, whatever its length and whatever is behind
		{"\xf0", nil, api.OK},
		{"\xff", nil, api.OK},
		{"\xf0\x10a", nil, api.OK},
		{"\x10a\xf0", elems(elem(1, "a")), api.OK},
		{"\x10a\xf3\x10", elems(elem(1, "a")), api.OK},
		{"\x10a\x00\xf1bc\x20d", elems(elem(1, "a")), api.OK},
		{"\x10a\xf0" + strings.Repeat("\x10a", 20), elems(elem(1, "a")), api.OK},
		{"\x01", nil, api.OK},
		{"\x0f", nil, api.OK},
		{"\x01ab\x10a", nil, api.OK},
		{"\x10a\x01", elems(elem(1, "a")), api.OK},
		{"\x10a\x0f\x10", elems(elem(1, "a")), api.OK},
		{"\x10a\x00\x01bc\x20d", elems(elem(1, "a")), api.OK},
		// what looks like an end within an element is none
		{"\x11\xf0\x01\x20b", elems(elem(1, "\xf0\x01"), elem(2, "b")), api.OK},
		// cut off
		{"\x10", nil, api.ErrShort},
		{"\x1f" + xs(15), nil, api.ErrShort},
		{"\x11a", nil, api.ErrShort},
		{"\x10a\x20", nil, api.ErrShort},
		{"\x10a\x00\xe2bc", nil, api.ErrShort},
		// as many as may be, and one more
		{strings.Repeat("\x10a", 8), slices.Repeat(elems(elem(1, "a")), 8), api.OK},
		{strings.Repeat("\x10a\x00", 8) + "\x00", slices.Repeat(elems(elem(1, "a")), 8), api.OK},
		{strings.Repeat("\x10a", 8) + "\xf0\x10a", slices.Repeat(elems(elem(1, "a")), 8), api.OK},
		{strings.Repeat("\x10a", 8) + "\x01\x10a", slices.Repeat(elems(elem(1, "a")), 8), api.OK},
		{strings.Repeat("\x10a", 9), nil, api.ErrLong},
		{strings.Repeat("\x10a", 9) + "\xf0", nil, api.ErrLong},
		{strings.Repeat("\x10a", 1000), nil, api.ErrLong},
		{strings.Repeat("\x10a", 8) + "\x10", nil, api.ErrShort},
		{strings.Repeat("\x10a", 9) + "\x10", nil, api.ErrShort}, // what is cut off goes ahead of the limit
		{strings.Repeat("\x10a", 1000) + "\x11a", nil, api.ErrShort},
		{strings.Repeat("\x10a", 9) + "\xf0\x10", nil, api.ErrLong},
	} {
		if got, why := ext.Read(ext.One, []byte(c.b)); why != c.why || !same(got, c.want) {
			t.Errorf("P4.1: Read of One, case %d: %v, %d, want %v, %d", i, got, int(why), c.want, int(c.why))
		}
	}
}

func TestReadOfTwo(t *testing.T) {
	for i, c := range []struct {
		b    string
		want []api.Elem
		why  api.Errno
	}{
		{"", nil, api.OK},
		{"\x00", nil, api.OK},
		{"\x00\x00\x00\x00", nil, api.OK},
		{"\x01\x00", elems(elem(1, "")), api.OK},
		{"\xff\x00", elems(elem(255, "")), api.OK},
		{"\x01\x01a", elems(elem(1, "a")), api.OK},
		{"\xff\xff" + xs(255), elems(elem(255, xs(255))), api.OK},
		{"\x01\xff" + xs(255) + "\x02\x01y", elems(elem(1, xs(255)), elem(2, "y")), api.OK},
		{"\x01\x02\x00\x00\x02\x01\xff", elems(elem(1, "\x00\x00"), elem(2, "\xff")), api.OK},
		{"\x01\x00\x02\x00\x01\x01c", elems(elem(1, ""), elem(2, ""), elem(1, "c")), api.OK},
		// noughts ahead, between and behind
		{"\x00\x01\x01a", elems(elem(1, "a")), api.OK},
		{"\x00\x00\x01\x00\x00\x00\x02\x02bc\x00\x00\x00", elems(elem(1, ""), elem(2, "bc")), api.OK},
		// what ends the other form does not end this one
		{"\xf0\x01a\x01\x01b", elems(elem(240, "a"), elem(1, "b")), api.OK},
		{"\x0f\x01a\x01\x01b", elems(elem(15, "a"), elem(1, "b")), api.OK},
		// cut off
		{"\x01", nil, api.ErrShort},
		{"\xff", nil, api.ErrShort},
		{"\x01\x01", nil, api.ErrShort},
		{"\x01\x03ab", nil, api.ErrShort},
		{"\x01\xff" + xs(254), nil, api.ErrShort},
		{"\x01\x01a\x02", nil, api.ErrShort},
		{"\x01\x01a\x00\x02\x02b", nil, api.ErrShort},
		// as many as may be, and one more
		{strings.Repeat("\x05\x00", 8), slices.Repeat(elems(elem(5, "")), 8), api.OK},
		{strings.Repeat("\x05\x00\x00", 8) + "\x00", slices.Repeat(elems(elem(5, "")), 8), api.OK},
		{strings.Repeat("\x05\x00", 9), nil, api.ErrLong},
		{strings.Repeat("\x05\x00", 1000), nil, api.ErrLong},
		{strings.Repeat("\x05\x00", 8) + "\x05", nil, api.ErrShort},
		{strings.Repeat("\x05\x00", 9) + "\x05", nil, api.ErrShort}, // what is cut off goes ahead of the limit
		{strings.Repeat("\x05\x00", 1000) + "\x05\x01", nil, api.ErrShort},
	} {
		if got, why := ext.Read(ext.Two, []byte(c.b)); why != c.why || !same(got, c.want) {
			t.Errorf("P4.1: Read of Two, case %d: %v, %d, want %v, %d", i, got, int(why), c.want, int(c.why))
		}
	}
}

func TestOfNothing(t *testing.T) {
	for _, profile := range profiles {
		for _, b := range [][]byte{nil, {}} {
			if l, why := ext.Read(profile, b); why != api.OK || len(l) != 0 {
				t.Errorf("R4: Read(%#x, nothing): %v, %d", profile, l, int(why))
			}
			if s, ok := ext.Rid(api.Rtp{Profile: profile, Ext: b}); ok || s != "" {
				t.Errorf("R4: Rid of %#x with nothing: %q, %v", profile, s, ok)
			}
		}
	}
}

// TestReadOfBytes goes through each ID, about the bounds of each form, with each length, about the bounds too.
func TestReadOfBytes(t *testing.T) {
	for _, profile := range profiles {
		ids, least, most := 14, 1, 16
		if profile == ext.Two {
			ids, least, most = 255, 0, 255
		}
		for id := -1; id <= ids+2; id++ {
			for n := 0; n <= most+2; n++ {
				l := elems(elem(id, xs(n)))
				b, why := ext.Bytes(profile, l)
				if id < 1 || id > ids || n < least || n > most {
					if why != api.ErrArg || len(b) != 0 {
						t.Fatalf("P4.1: Bytes of %#x, ID %d, %d bytes: %d", profile, id, n, int(why))
					}
					continue
				}
				got, no := ext.Read(profile, b)
				if why != api.OK || no != api.OK || len(b)%4 != 0 || !same(got, l) {
					t.Fatalf("P4.1: Read of Bytes of %#x, ID %d, %d bytes: %d, %d", profile, id, n, int(why), int(no))
				}
			}
		}
	}
}

// told tells by the chapter's words, a byte at a time, what Read must answer of one of the two profiles.
func told(profile uint16, b []byte) ([]api.Elem, api.Errno) {
	var l []api.Elem
	rest := b
	for len(rest) > 0 {
		id, n := int(rest[0]), 0
		rest = rest[1:]
		if id == 0 {
			continue
		}
		if profile == ext.One {
			id, n = id/16, id%16+1
			if id == 0 || id == 15 {
				break
			}
		} else {
			if len(rest) == 0 {
				return nil, api.ErrShort
			}
			n, rest = int(rest[0]), rest[1:]
		}
		if len(rest) < n {
			return nil, api.ErrShort
		}
		l, rest = append(l, api.Elem{ID: id, Data: rest[:n]}), rest[n:]
	}
	if len(l) > 8 {
		return nil, api.ErrLong
	}
	return l, api.OK
}

// TestReadOfAny holds Read against the chapter's words, over all of two bytes and over bytes of chance, small ones mostly, as these make several elements.
func TestReadOfAny(t *testing.T) {
	for n := range 1 << 16 {
		holdRead(t, []byte{byte(n >> 8), byte(n)})
		holdRead(t, []byte{byte(n >> 8), byte(n), 0x20, 0x01})
	}
	r := rand.New(rand.NewSource(4))
	for range 60000 {
		b := make([]byte, r.Intn(48))
		for i := range b {
			if b[i] = byte(r.Intn(1 + r.Intn(5))); r.Intn(3) == 0 {
				b[i] = byte(r.Intn(256)) & 0xf1
			}
		}
		holdRead(t, b)
	}
}

func holdRead(t *testing.T, b []byte) {
	t.Helper()
	for _, profile := range profiles {
		want, no := told(profile, b)
		got, why := ext.Read(profile, b)
		if why != no || !same(got, want) {
			t.Fatalf("P4.1: Read(%#x, %v): %v, %d, want %v, %d", profile, b, got, int(why), want, int(no))
		}
		holdRid(t, api.Rtp{Profile: profile, Ext: b}, want)
		if why != api.OK {
			continue
		}
		again, no := ext.Bytes(profile, got)
		if no != api.OK || len(again)%4 != 0 || len(again) > len(b)+3 {
			t.Fatalf("P4.1: Bytes of Read(%#x, %v): %v, %d", profile, b, again, int(no))
		}
		if l, no := ext.Read(profile, again); no != api.OK || !same(l, got) {
			t.Fatalf("P4.1: Read of Bytes of Read(%#x, %v): %v, %d", profile, b, l, int(no))
		}
	}
}

// holdRid holds Rid against the first element of ID 1 of l.
func holdRid(t *testing.T, p api.Rtp, l []api.Elem) {
	t.Helper()
	const may = "abcdefghijklmnopqrstuvwxyzABCDEFGHIJKLMNOPQRSTUVWXYZ0123456789-_"
	want, fits := "", false
	if i := slices.IndexFunc(l, func(e api.Elem) bool { return e.ID == 1 }); i >= 0 {
		name := string(l[i].Data)
		if fits = len(name) >= 1 && len(name) <= 8 && strings.Trim(name, may) == ""; fits {
			want = name
		}
	}
	if s, ok := ext.Rid(p); s != want || ok != fits {
		t.Fatalf("P4.1: Rid of %#x, %v: %q, %v, want %q", p.Profile, p.Ext, s, ok, want)
	}
}

func TestFind(t *testing.T) {
	l := elems(elem(3, "a"), elem(1, ""), elem(3, "b"), elem(1, "c"), elem(0, "d"), elem(-7, "e"), elem(math.MaxInt, xs(300)), api.Elem{ID: 5})
	for _, c := range []struct {
		id   int
		want string
		ok   bool
	}{
		{3, "a", true}, {1, "", true}, {0, "d", true}, {-7, "e", true}, {math.MaxInt, xs(300), true}, {5, "", true},
		{2, "", false}, {-1, "", false}, {4, "", false}, {259, "", false}, {math.MinInt, "", false},
	} {
		if got, ok := ext.Find(l, c.id); string(got) != c.want || ok != c.ok {
			t.Errorf("P4.1: Find of %d: %q, %v, want %q", c.id, got, ok, c.want)
		}
	}
	for _, none := range [][]api.Elem{nil, {}} {
		for _, id := range []int{0, 1, -1, math.MaxInt} {
			if got, ok := ext.Find(none, id); ok || len(got) != 0 {
				t.Errorf("P4.1: Find of %d of nothing: %q, %v", id, got, ok)
			}
		}
	}
	many := append(slices.Repeat(elems(elem(2, "x")), 100), elem(9, "y"))
	if got, ok := ext.Find(many, 9); !ok || string(got) != "y" {
		t.Errorf("P4.1: Find behind as many as may be: %q, %v", got, ok)
	}
}

func TestRid(t *testing.T) {
	for i, c := range []struct {
		profile uint16
		b       string
		want    string
		ok      bool
	}{
		{ext.One, "\x10q\x00\x00", "q", true},
		{ext.One, "\x11hi\x00", "hi", true},
		{ext.One, "\x17aZ0-_9bY\x00\x00\x00", "aZ0-_9bY", true},
		{ext.One, "\x20x\x10y", "y", true},
		{ext.One, "\x00\x10y\x00", "y", true},
		{ext.One, "\x10a\x10b", "a", true},
		{ext.One, "\x10a\xf0\x10", "a", true},
		{ext.One, "\x10a\x01", "a", true},
		{ext.One, strings.Repeat("\x20x", 7) + "\x10a", "a", true},
		{ext.Two, "\x01\x01q", "q", true},
		{ext.Two, "\x01\x0812345678\x00\x00", "12345678", true},
		{ext.Two, "\x02\x00\x01\x02Lo", "Lo", true},
		// a name that is not right
		{ext.One, "\x10.", "", false},
		{ext.One, "\x12a b", "", false},
		{ext.One, "\x11a\x00", "", false},
		{ext.One, "\x11\xc3\xa9", "", false},
		{ext.One, "\x10\xff", "", false},
		{ext.One, "\x18123456789", "", false},
		{ext.Two, "\x01\x00", "", false},
		{ext.Two, "\x01\x09123456789", "", false},
		{ext.Two, "\x01\xff" + xs(255), "", false},
		{ext.One, "\x10.\x10a", "", false}, // the first one counts
		{ext.Two, "\x01\x00\x01\x01a", "", false},
		// none
		{ext.One, "\x20x", "", false},
		{ext.Two, "\x02\x01x", "", false},
		{ext.One, "\xf0\x10a", "", false},
		{ext.One, "\x01\x10a", "", false},
		{ext.Two, "\x11\x00", "", false},
		// what Read refuses
		{ext.One, "\x10a\x11b", "", false},
		{ext.One, "\x10a\x10", "", false},
		{ext.Two, "\x01\x01a\x01", "", false},
		{ext.One, strings.Repeat("\x10a", 9), "", false},
		{ext.Two, strings.Repeat("\x01\x01a", 9), "", false},
		// the other form's bytes
		{ext.Two, "\x11hi\x00", "", false},
		{ext.One, "\x01\x02hi", "", false},
	} {
		p := api.Rtp{Type: 96, Profile: c.profile, Ext: []byte(c.b), Payload: []byte("\x10z")}
		if got, ok := ext.Rid(p); got != c.want || ok != c.ok {
			t.Errorf("P4.1: Rid, case %d: %q, %v, want %q", i, got, ok, c.want)
		}
	}
	if got, ok := ext.Rid(api.Rtp{}); got != "" || ok {
		t.Errorf("P4.1: Rid of a packet without an extension: %q, %v", got, ok)
	}
	odd := api.Rtp{Type: -1, Csrc: make([]uint32, 99), Profile: ext.One, Ext: []byte("\x10a"), Payload: make([]byte, 3000)}
	if got, ok := ext.Rid(odd); got != "a" || !ok {
		t.Errorf("P4.1: Rid of a packet that may not be: %q, %v", got, ok)
	}
}

// roomy answers a list of those bytes with spare room behind it that is full of bytes that would be elements, and the whole of its memory.
func roomy(s string) (b, whole []byte) {
	whole = append([]byte(s), bytes.Repeat([]byte{0x10}, 40)...)
	return whole[:len(s)], whole
}

// over writes over all of a list, its spare room too.
func over(b []byte) {
	b = b[:cap(b)]
	for i := range b {
		b[i] = 0x55
	}
}

func TestReadMakesAnew(t *testing.T) {
	for _, c := range []struct {
		profile uint16
		b       string
		want    []api.Elem
	}{
		{ext.One, "\x11ab\x20c\x10\x00\x00", elems(elem(1, "ab"), elem(2, "c"), elem(1, "\x00"))},
		{ext.Two, "\x01\x02ab\x02\x00\x03\x01c\x00", elems(elem(1, "ab"), elem(2, ""), elem(3, "c"))},
	} {
		b, whole := roomy(c.b)
		before := slices.Clone(whole)
		l, why := ext.Read(c.profile, b)
		if why != api.OK || !same(l, c.want) {
			t.Errorf("R5: Read: %v, %d", l, int(why))
		}
		for i := range l {
			over(l[i].Data)
			l[i].Data = c.want[i].Data
			if !same(l, c.want) || !bytes.Equal(whole, before) {
				t.Errorf("R2: Read of %#x: element %d shares its memory", c.profile, i)
			}
		}
		l, _ = ext.Read(c.profile, b)
		over(whole)
		if !same(l, c.want) {
			t.Errorf("R2: Read of %#x keeps what it was handed: %v", c.profile, l)
		}
	}
	b, _ := roomy("\x10a\x20")
	if l, why := ext.Read(ext.One, b); why != api.ErrShort || len(l) != 0 {
		t.Errorf("R5: Read takes the spare room for an element's bytes: %v, %d", l, int(why))
	}
	b, _ = roomy("\x01\x01a\x01")
	if l, why := ext.Read(ext.Two, b); why != api.ErrShort || len(l) != 0 {
		t.Errorf("R5: Read takes the spare room for an element's length: %v, %d", l, int(why))
	}
}

func TestBytesMakesAnew(t *testing.T) {
	for profile, want := range map[uint16]string{ext.One: "\x12abc", ext.Two: "\x01\x03abc\x00\x00\x00"} {
		data, whole := roomy("abc")
		room := elems(api.Elem{ID: 1, Data: data}, elem(2, "kept"))
		before := slices.Clone(whole)
		b, why := ext.Bytes(profile, room[:1])
		if why != api.OK || string(b) != want {
			t.Errorf("R5: Bytes of %#x: %q, %d", profile, b, int(why))
		}
		over(b)
		if !bytes.Equal(whole, before) || !same(room, elems(elem(1, "abc"), elem(2, "kept"))) {
			t.Errorf("R2: Bytes of %#x changed what it was handed, or shares it", profile)
		}
		b, _ = ext.Bytes(profile, room[:1])
		over(whole)
		if string(b) != want {
			t.Errorf("R2: Bytes of %#x keeps what it was handed: %q", profile, b)
		}
	}
}

func TestFindMakesAnew(t *testing.T) {
	data, whole := roomy("abc")
	l := elems(elem(2, "x"), api.Elem{ID: 1, Data: data})
	before := slices.Clone(whole)
	got, _ := ext.Find(l, 1)
	over(got)
	if !bytes.Equal(whole, before) {
		t.Errorf("R2: Find shares what it was handed: %q", whole)
	}
	empty, _ := ext.Find(elems(api.Elem{ID: 1, Data: data[:0]}), 1)
	if over(empty); !bytes.Equal(whole, before) {
		t.Errorf("R2: Find of no bytes shares what it was handed: %q", whole)
	}
	got, _ = ext.Find(l, 1)
	over(whole)
	if string(got) != "abc" {
		t.Errorf("R2: Find keeps what it was handed: %q", got)
	}
	if _, ok := ext.Find(append(l, elem(9, "y"))[:2], 9); ok {
		t.Error("R5: Find reads the spare room")
	}
}

func TestRidMakesAnew(t *testing.T) {
	b, whole := roomy("\x11hi\x00")
	before := slices.Clone(whole)
	p := api.Rtp{Profile: ext.One, Ext: b}
	s, ok := ext.Rid(p)
	if !ok || s != "hi" || !bytes.Equal(whole, before) {
		t.Errorf("R2: Rid: %q, %v, %q", s, ok, whole)
	}
	over(whole)
	if s != "hi" {
		t.Errorf("R2: Rid keeps what it was handed: %q", s)
	}
}

// TestSameEachTime holds that an answer hangs on what is given alone, not on calls ahead of it.
func TestSameEachTime(t *testing.T) {
	good := []byte("\x11hi\x20c\x00\x00\x00")
	for _, bad := range []string{"\x10", "\x10a\xf0", strings.Repeat("\x10a", 9)} {
		ext.Read(ext.One, []byte(bad))
		ext.Bytes(ext.One, make([]api.Elem, 3))
		if l, why := ext.Read(ext.One, good); why != api.OK || !same(l, elems(elem(1, "hi"), elem(2, "c"))) {
			t.Errorf("R3, R4: Read after %q: %v, %d", bad, l, int(why))
		}
	}
}
