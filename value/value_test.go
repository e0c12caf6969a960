package value_test

import (
	"errors"
	"fmt"
	"io"
	"math"
	"runtime"
	"slices"
	"strings"
	"testing"
	"unsafe"

	"limelight/api"
	"limelight/value"
)

// Types whose kind is one that is read, but that are others.
type (
	ownInt    int
	ownInt64  int64
	ownUint32 uint32
	ownRune   rune
	ownString string
	ownBool   bool
	ownBytes  []byte
	ownLayer  api.Layer
	ownLayers []api.Layer
	holder    struct{ api.Layer }
)

// Errors of several kinds; those of a string and of bytes are no strings and no bytes.
type (
	textError  string
	bytesError []byte
	intError   int
	ptrError   struct{ text string }
	nilError   struct{}
	failing    struct{ with any }
	holding    struct{ error }
)

func (e textError) Error() string  { return "text " + string(e) }
func (e bytesError) Error() string { return "bytes " + string(e) }
func (e intError) Error() string   { return strings.Repeat("i", int(e)) }
func (e *ptrError) Error() string  { return e.text }
func (e *nilError) Error() string  { return "nil too" }
func (e failing) Error() string    { panic(e.with) }

// named has a String, and is no error.
type named struct{}

func (named) String() string { return "named" }

// others are values that are no number, no text, no layer and no layers.
func others() []any {
	n, s, why := 7, "s", errors.New("e")
	layer := api.Layer{Rid: "h", Ssrc: 1, Height: 720}
	return []any{
		nil, int8(7), int16(7), uint(7), uint8(7), uint16(7), uint64(7), uintptr(7),
		float32(1), 1.0, 1.5, math.NaN(), math.Inf(1), complex64(1), complex(1, 0),
		ownInt(7), ownInt64(7), ownUint32(7), ownRune(7), ownString("7"), ownBool(true), ownBytes("7"),
		&n, &s, &why, &layer, (*int)(nil), (*string)(nil), (*api.Layer)(nil),
		ownLayer(layer), ownLayers{layer}, holder{layer}, [1]api.Layer{layer}, []*api.Layer{&layer}, [][]api.Layer{{layer}}, &[]api.Layer{layer},
		[]any{"h", 1, 720}, []any{}, []string{"a"}, []rune("a"), []int{7}, [1]byte{7}, [3]any{"h", 1, 720},
		map[string]int{"a": 1}, map[int]int(nil), struct{}{}, named{}, api.Tuple{}, api.Ctl{Layers: []api.Layer{layer}},
		func() int { return 7 }, (func() string)(nil), make(chan int), (chan int)(nil), unsafe.Pointer(nil),
	}
}

// numbers are values that are numbers, and which they are.
func numbers() []struct {
	v    any
	want int64
} {
	type number = struct {
		v    any
		want int64
	}
	l := []number{{true, 1}, {false, 0}, {'a', 97}, {'世', 0x4e16}}
	for _, n := range []int64{0, 1, -1, 2, 96, 255, 256, 8192, 8193, math.MaxInt32, math.MaxInt32 + 1, math.MinInt32, math.MinInt32 - 1, math.MaxUint32, math.MaxUint32 + 1, math.MaxInt64, math.MinInt64} {
		l = append(l, number{int(n), n}, number{n, n})
		if n >= 0 && n <= math.MaxUint32 {
			l = append(l, number{uint32(n), n})
		}
		if n >= math.MinInt32 && n <= math.MaxInt32 {
			l = append(l, number{rune(n), n})
		}
	}
	for s, n := range map[string]int64{
		"": 0, "a": 1, "720": 3, "abc": 3, "\x00\x00": 2, "é": 1, "e\u0301": 2, "世": 1, "a世b": 3, "\U0001f600": 1, "\ufffd": 1,
		"\xff": 1, "\xff\xff": 2, "世a\xff": 3, "\xe4\xb8": 2, "\xe4\xb8世": 3, "\xed\xa0\x80": 3, "\xf4\x90\x80\x80": 4,
	} {
		l = append(l, number{s, n})
	}
	return append(l, number{strings.Repeat("世\xff", 1<<16), 1 << 17})
}

func TestInt(t *testing.T) {
	for _, c := range numbers() {
		if got, ok := value.Int(c.v); got != c.want || !ok {
			t.Errorf("P7.1: Int(%T %.40v): %d, %v, want %d", c.v, c.v, got, ok, c.want)
		}
	}
}

func TestIntOfAnythingElse(t *testing.T) {
	l := append(others(), []byte("7"), []byte(nil), api.Layer{Rid: "h", Ssrc: 1, Height: 720}, []api.Layer{})
	l = append(l, errors.New("7"), api.ErrArg, api.OK, textError("7"), intError(7), &ptrError{}, (*ptrError)(nil), failing{7})
	for _, v := range l {
		if got, ok := value.Int(v); got != 0 || ok {
			t.Errorf("P7.1: Int(%T): %d, %v, want 0, false", v, got, ok)
		}
	}
}

func TestText(t *testing.T) {
	for _, c := range []struct {
		v    any
		want string
	}{
		{"", ""}, {"a", "a"}, {"a世\x00", "a世\x00"}, {"\xff\xe4\xb8", "\xff\xe4\xb8"}, {strings.Repeat("x", 1<<16), strings.Repeat("x", 1<<16)},
		{[]byte{}, ""}, {[]byte(nil), ""}, {[]byte("xy"), "xy"}, {[]byte{0, 255, 0xe4, 0xb8}, "\x00\xff\xe4\xb8"}, {[]byte("xyz")[:2], "xy"},
		{errors.New("why"), "why"}, {errors.New(""), ""}, {errors.New("\xff"), "\xff"}, {io.EOF, "EOF"}, {fmt.Errorf("b %w", io.EOF), "b EOF"},
		{api.OK, api.OK.Error()}, {api.ErrArg, api.ErrArg.Error()}, {api.ErrForm, api.ErrForm.Error()}, {api.Errno(-5), api.Errno(-5).Error()},
		{textError("a"), "text a"}, {textError(""), "text "}, {bytesError("a"), "bytes a"}, {bytesError(nil), "bytes "}, {intError(3), "iii"}, {intError(0), ""},
		{&ptrError{"p"}, "p"}, {(*nilError)(nil), "nil too"}, {holding{io.EOF}, "EOF"}, {&holding{io.EOF}, "EOF"},
	} {
		if got, ok := value.Text(c.v); got != c.want || !ok {
			t.Errorf("P7.1: Text(%T %.40v): %.40q, %v, want %.40q", c.v, c.v, got, ok, c.want)
		}
	}
}

func TestTextOfAnythingElse(t *testing.T) {
	l := append(others(), 7, int64(7), uint32(7), 'a', true, false, api.Layer{Rid: "h"}, []api.Layer{})
	l = append(l, ptrError{"a pointer to it is an error"}, nilError{}, error(nil))
	for _, v := range l {
		if got, ok := value.Text(v); got != "" || ok {
			t.Errorf("P7.1: Text(%T): %q, %v, want false", v, got, ok)
		}
	}
}

// TestTextOfErrorsThatPanic: no call panics (R1), and what an error did not tell is no text.
func TestTextOfErrorsThatPanic(t *testing.T) {
	for _, v := range []any{(*ptrError)(nil), (*textError)(nil), holding{}, (*holding)(nil), intError(-1), failing{"why"}, failing{errors.New("why")}, failing{7}, failing{nil}} {
		if got, ok := value.Text(v); got != "" || ok {
			t.Errorf("R1: Text(%T): %q, %v, want false", v, got, ok)
		}
	}
}

// panicOf answers what f panics with.
func panicOf(f func()) (what any) {
	defer func() { what = recover() }()
	f()
	return nil
}

func TestMust(t *testing.T) {
	for _, s := range []string{"", "a", "a世\x00", "\xff\xe4\xb8", strings.Repeat("x", 1<<16)} {
		if got := value.Must(s); got != s {
			t.Errorf("P7.1: Must(%.40q): %.40q", s, got)
		}
	}
	l := append(others(), 7, int64(7), uint32(7), 'a', true, []byte("a"), []byte(nil), api.Layer{Rid: "h"}, []api.Layer{})
	l = append(l, errors.New("a"), api.ErrArg, textError("a"), &ptrError{"a"}, failing{7})
	for _, v := range l {
		want := panicOf(func() { _ = v.(string) })
		got, ok := panicOf(func() { value.Must(v) }).(*runtime.TypeAssertionError)
		if !ok || got.Error() != want.(error).Error() {
			t.Errorf("P7.1: Must(%T) panics with %v, as Go does with %v", v, got, want)
		}
	}
}

// number tells by the chapter's words what Int must answer.
func number(v any) (int64, bool) {
	switch fmt.Sprintf("%T", v) {
	case "string":
		return int64(len([]rune(v.(string)))), true
	case "bool":
		return map[any]int64{true: 1, false: 0}[v], true
	case "int", "int64", "uint32", "int32":
		var n int64
		_, err := fmt.Sscan(fmt.Sprintf("%d", v), &n)
		return n, err == nil
	}
	return 0, false
}

// form tells by the chapter's words whether those may be a layer's.
func form(name string, height int64) bool {
	for _, r := range name {
		if !strings.ContainsRune("abcdefghijklmnopqrstuvwxyzABCDEFGHIJKLMNOPQRSTUVWXYZ0123456789-_", r) {
			return false
		}
	}
	return name != "" && len(name) <= 8 && height >= 1 && height <= 8192
}

// one tells by the chapter's words what Layer must answer.
func one(l []any) (api.Layer, api.Errno) {
	var x api.Layer
	height := int64(0)
	switch {
	case len(l) == 1 && fmt.Sprintf("%T", l[0]) == "api.Layer":
		x = l[0].(api.Layer)
		height = int64(x.Height)
	case len(l) == 3 && fmt.Sprintf("%T", l[0]) == "string":
		n, ok := number(l[1])
		h, fine := number(l[2])
		if !ok || !fine || n < 0 || n > 4294967295 {
			return api.Layer{}, api.ErrArg
		}
		x = api.Layer{Rid: l[0].(string), Ssrc: uint32(n), Height: int(h)}
		height = h
	default:
		return api.Layer{}, api.ErrArg
	}
	if !form(x.Rid, height) {
		return api.Layer{}, api.ErrForm
	}
	return x, api.OK
}

// many tells by the chapter's words what Layers must answer: the values are parted first, then each part is one layer.
func many(l []any) ([]api.Layer, api.Errno) {
	var parts [][]any
	for at := 0; at < len(l); at++ {
		switch fmt.Sprintf("%T", l[at]) {
		case "string":
			parts = append(parts, l[at:min(at+3, len(l))])
			at += 2
		case "[]api.Layer":
			for _, x := range l[at].([]api.Layer) {
				parts = append(parts, []any{x})
			}
		default:
			parts = append(parts, l[at:at+1])
		}
	}
	var all []api.Layer
	for _, p := range parts {
		x, why := one(p)
		if why != api.OK {
			return nil, why
		}
		all = append(all, x)
	}
	if len(all) > 3 {
		return nil, api.ErrLong
	}
	return all, api.OK
}

func holdLayer(t *testing.T, l []any) {
	t.Helper()
	want, no := one(l)
	if got, why := value.Layer(l...); got != want || why != no {
		t.Errorf("P7.2: Layer(%v): %v, %d, want %v, %d", l, got, int(why), want, int(no))
	}
}

func holdLayers(t *testing.T, l []any) {
	t.Helper()
	want, no := many(l)
	got, why := value.Layers(l...)
	if !slices.Equal(got, want) || why != no {
		t.Errorf("P7.2: Layers(%v): %v, %d, want %v, %d", l, got, int(why), want, int(no))
	}
}

func TestLayer(t *testing.T) {
	h := api.Layer{Rid: "h", Ssrc: 1, Height: 720}
	for _, c := range []struct {
		l    []any
		want api.Layer
		why  api.Errno
	}{
		{[]any{"h", 1, 720}, h, api.OK},
		{[]any{h}, h, api.OK},
		{[]any{"h", "x", "seven x"}, api.Layer{Rid: "h", Ssrc: 1, Height: 7}, api.OK},
		{[]any{"h", false, true}, api.Layer{Rid: "h", Ssrc: 0, Height: 1}, api.OK},
		{[]any{"h", "", "\xe4\xb8"}, api.Layer{Rid: "h", Ssrc: 0, Height: 2}, api.OK},
		{[]any{"q-1_HD09", uint32(math.MaxUint32), rune(8192)}, api.Layer{Rid: "q-1_HD09", Ssrc: math.MaxUint32, Height: 8192}, api.OK},
		{[]any{api.Layer{Rid: "q-1_HD09", Ssrc: math.MaxUint32, Height: 8192}}, api.Layer{Rid: "q-1_HD09", Ssrc: math.MaxUint32, Height: 8192}, api.OK},
		{[]any{api.Layer{Rid: "_", Height: 1}}, api.Layer{Rid: "_", Height: 1}, api.OK},

		{nil, api.Layer{}, api.ErrArg},
		{[]any{}, api.Layer{}, api.ErrArg},
		{[]any{nil}, api.Layer{}, api.ErrArg},
		{[]any{"h"}, api.Layer{}, api.ErrArg},
		{[]any{"h", 1}, api.Layer{}, api.ErrArg},
		{[]any{"h", 1, 720, 1}, api.Layer{}, api.ErrArg},
		{[]any{"h", 1, 720, nil}, api.Layer{}, api.ErrArg},
		{[]any{h, h}, api.Layer{}, api.ErrArg},
		{[]any{h, 1, 720}, api.Layer{}, api.ErrArg},
		{[]any{&h}, api.Layer{}, api.ErrArg},
		{[]any{[]api.Layer{h}}, api.Layer{}, api.ErrArg},
		{[]any{ownString("h"), 1, 720}, api.Layer{}, api.ErrArg},
		{[]any{[]byte("h"), 1, 720}, api.Layer{}, api.ErrArg},
		{[]any{textError("h"), 1, 720}, api.Layer{}, api.ErrArg},
		{[]any{1, "h", 720}, api.Layer{}, api.ErrArg},
		{[]any{"h", -1, 720}, api.Layer{}, api.ErrArg},
		{[]any{"h", int64(math.MaxUint32) + 1, 720}, api.Layer{}, api.ErrArg},
		{[]any{"h", uint64(1), 720}, api.Layer{}, api.ErrArg},
		{[]any{"h", 1, uint64(720)}, api.Layer{}, api.ErrArg},
		{[]any{"", -1, 0}, api.Layer{}, api.ErrArg},
		{[]any{"", 1, 1.5}, api.Layer{}, api.ErrArg},

		{[]any{"", 1, 720}, api.Layer{}, api.ErrForm},
		{[]any{"123456789", 1, 720}, api.Layer{}, api.ErrForm},
		{[]any{"a.b", 1, 720}, api.Layer{}, api.ErrForm},
		{[]any{"h\xff", 1, 720}, api.Layer{}, api.ErrForm},
		{[]any{"h", 1, 0}, api.Layer{}, api.ErrForm},
		{[]any{"h", 1, ""}, api.Layer{}, api.ErrForm},
		{[]any{"h", 1, false}, api.Layer{}, api.ErrForm},
		{[]any{"h", 1, -1}, api.Layer{}, api.ErrForm},
		{[]any{"h", 1, 8193}, api.Layer{}, api.ErrForm},
		{[]any{"h", 1, int64(1<<32 + 720)}, api.Layer{}, api.ErrForm},
		{[]any{"h", 1, strings.Repeat("x", 8193)}, api.Layer{}, api.ErrForm},
		{[]any{api.Layer{}}, api.Layer{}, api.ErrForm},
		{[]any{api.Layer{Rid: "h", Ssrc: 1}}, api.Layer{}, api.ErrForm},
		{[]any{api.Layer{Rid: "h", Ssrc: 1, Height: -720}}, api.Layer{}, api.ErrForm},
		{[]any{api.Layer{Rid: "h", Ssrc: 1, Height: 8193}}, api.Layer{}, api.ErrForm},
		{[]any{api.Layer{Rid: "h", Ssrc: 1, Height: math.MaxInt}}, api.Layer{}, api.ErrForm},
		{[]any{api.Layer{Ssrc: 1, Height: 720}}, api.Layer{}, api.ErrForm},
		{[]any{api.Layer{Rid: "世", Ssrc: 1, Height: 720}}, api.Layer{}, api.ErrForm},
	} {
		if got, why := value.Layer(c.l...); got != c.want || why != c.why {
			t.Errorf("P7.2: Layer(%v): %v, %d, want %v, %d", c.l, got, int(why), c.want, int(c.why))
		}
		holdLayer(t, c.l)
		holdLayers(t, c.l)
	}
}

// TestLayerOfEachNumber goes through all numbers as Ssrc and as Height, and through all that is none.
func TestLayerOfEachNumber(t *testing.T) {
	for _, name := range []string{"h", "", "h."} {
		for _, c := range numbers() {
			holdLayer(t, []any{name, c.v, 720})
			holdLayer(t, []any{name, 1, c.v})
			holdLayer(t, []any{name, c.v, c.v})
			holdLayer(t, []any{c.v, 1, 720})
			holdLayer(t, []any{c.v})
			holdLayer(t, []any{api.Layer{Rid: name, Ssrc: uint32(c.want), Height: int(c.want)}})
		}
		for _, v := range others() {
			holdLayer(t, []any{name, v, 720})
			holdLayer(t, []any{name, 1, v})
			holdLayer(t, []any{v, 1, 720})
			holdLayer(t, []any{v})
			holdLayers(t, []any{v})
			holdLayers(t, []any{name, 1, 720, v})
		}
	}
}

func TestLayers(t *testing.T) {
	h, a, b := api.Layer{Rid: "h", Ssrc: 1, Height: 720}, api.Layer{Rid: "a", Ssrc: 2, Height: 3}, api.Layer{Rid: "b", Height: 8192}
	bad := api.Layer{Rid: "h", Ssrc: 1}
	for _, c := range []struct {
		l    []any
		want []api.Layer
		why  api.Errno
	}{
		{nil, nil, api.OK},
		{[]any{[]api.Layer(nil)}, nil, api.OK},
		{[]any{[]api.Layer{}, []api.Layer(nil)}, nil, api.OK},
		{[]any{h}, []api.Layer{h}, api.OK},
		{[]any{"h", 1, 720}, []api.Layer{h}, api.OK},
		{[]any{"h", "a", "b"}, []api.Layer{{Rid: "h", Ssrc: 1, Height: 1}}, api.OK},
		{[]any{"h", 1, 720, a, "b", 0, 8192}, []api.Layer{h, a, b}, api.OK},
		{[]any{"b", 0, 8192, "a", 2, 3, "h", 1, 720}, []api.Layer{b, a, h}, api.OK},
		{[]any{[]api.Layer{b}, []api.Layer{}, h, []api.Layer{a}}, []api.Layer{b, h, a}, api.OK},
		{[]any{[]api.Layer{b, a, h}}, []api.Layer{b, a, h}, api.OK},
		{[]any{h, h, h}, []api.Layer{h, h, h}, api.OK},

		{[]any{h, h, h, h}, nil, api.ErrLong},
		{[]any{[]api.Layer{h, a, b, h}}, nil, api.ErrLong},
		{[]any{[]api.Layer{h, a}, []api.Layer{b, h}}, nil, api.ErrLong},
		{[]any{h, a, b, "h", 1, 720}, nil, api.ErrLong},
		{[]any{slices.Repeat([]api.Layer{h}, 1<<16), "h", 1, 720}, nil, api.ErrLong},
		{slices.Repeat([]any{slices.Repeat([]api.Layer{h}, 100)}, 100), nil, api.ErrLong},

		{[]any{nil}, nil, api.ErrArg},
		{[]any{7}, nil, api.ErrArg},
		{[]any{"h"}, nil, api.ErrArg},
		{[]any{""}, nil, api.ErrArg},
		{[]any{"h", 1}, nil, api.ErrArg},
		{[]any{"h", 1, h}, nil, api.ErrArg},
		{[]any{"h", h, 720}, nil, api.ErrArg},
		{[]any{"h", []api.Layer{h}, 720}, nil, api.ErrArg},
		{[]any{"h", 1, 720, 3}, nil, api.ErrArg},
		{[]any{"h", 1, 720, "a", 2}, nil, api.ErrArg},
		{[]any{h, a, b, h, 7}, nil, api.ErrArg},
		{[]any{h, a, b, h, bad}, nil, api.ErrForm},
		{[]any{slices.Repeat([]api.Layer{h}, 100), "h"}, nil, api.ErrArg},
		{[]any{[]any{h}}, nil, api.ErrArg},
		{[]any{&h}, nil, api.ErrArg},
		{[]any{ownLayers{h}}, nil, api.ErrArg},
		{[]any{h, &h}, nil, api.ErrArg},
		{[]any{[]byte("h"), 1, 720}, nil, api.ErrArg},

		{[]any{bad}, nil, api.ErrForm},
		{[]any{bad, 7}, nil, api.ErrForm},
		{[]any{7, bad}, nil, api.ErrArg},
		{[]any{"h", 1, 0, 7}, nil, api.ErrForm},
		{[]any{"h.", 1, 720, "h"}, nil, api.ErrForm},
		{[]any{"h", 1, "h.", 1, 720}, nil, api.ErrArg},
		{[]any{[]api.Layer{h, bad}, 7}, nil, api.ErrForm},
		{[]any{7, []api.Layer{bad}}, nil, api.ErrArg},
		{[]any{[]api.Layer{h, h, h, h, bad}}, nil, api.ErrForm},
		{[]any{h, []api.Layer{}, bad}, nil, api.ErrForm},
	} {
		if got, why := value.Layers(c.l...); !slices.Equal(got, c.want) || why != c.why {
			t.Errorf("P7.2: Layers(%.200v): %v, %d, want %v, %d", c.l, got, int(why), c.want, int(c.why))
		}
		holdLayers(t, c.l)
	}
}

// TestEachShortList goes through all lists of up to five of a few values.
func TestEachShortList(t *testing.T) {
	h, a := api.Layer{Rid: "h", Ssrc: 1, Height: 720}, api.Layer{Rid: "a", Ssrc: 2, Height: 3}
	values := []any{"h", "", 5, -1, 0, 1.5, nil, h, api.Layer{Rid: "x"}, []api.Layer{a, h}, []api.Layer{}, []api.Layer{h, {}}}
	lists := [][]any{nil}
	for at := 0; at < len(lists); at++ {
		l := lists[at]
		if len(l) <= 4 {
			holdLayer(t, l)
		}
		holdLayers(t, l)
		if len(l) < 5 {
			for _, v := range values {
				lists = append(lists, append(slices.Clone(l), v))
			}
		}
	}
}

// spare is l with room behind its length, and something there.
func spare[E any](l []E, e E) []E {
	return append(slices.Clone(l), e, e, e)[:len(l)]
}

func TestSpareRoom(t *testing.T) {
	h, a := api.Layer{Rid: "h", Ssrc: 1, Height: 720}, api.Layer{Rid: "a", Ssrc: 2, Height: 3}
	list := spare([]api.Layer{a, h}, api.Layer{Rid: "behind"})
	l := spare([]any{list, "h", 1, 720}, any(a))
	before, listBefore := slices.Clone(l[:cap(l)]), slices.Clone(list[:cap(list)])
	if got, why := value.Layers(l...); why != api.OK || !slices.Equal(got, []api.Layer{a, h, h}) {
		t.Errorf("R5: Layers: %v, %d", got, int(why))
	}
	if got, why := value.Layers(l[:3]...); why != api.ErrArg || len(got) != 0 {
		t.Errorf("R5: Layers reads behind the end: %v, %d", got, int(why))
	}
	if got, why := value.Layer(l[1:3]...); why != api.ErrArg || got != (api.Layer{}) {
		t.Errorf("R5: Layer reads behind the end: %v, %d", got, int(why))
	}
	if !slices.Equal(list[:cap(list)], listBefore) {
		t.Error("R2: Layers changed what it was handed")
	}
	for i, v := range l[:cap(l)] {
		if i > 0 && v != before[i] {
			t.Errorf("R2: Layers changed what it was handed, value %d", i)
		}
	}
	b := spare([]byte("xy"), 'z')
	if s, ok := value.Text(b); s != "xy" || !ok {
		t.Errorf("R5: Text: %q, %v", s, ok)
	}
}

// over writes over all of a list, its spare room too.
func over[E any](l []E, e E) {
	l = l[:cap(l)]
	for i := range l {
		l[i] = e
	}
}

func TestAnswersAreNew(t *testing.T) {
	h, a := api.Layer{Rid: "h", Ssrc: 1, Height: 720}, api.Layer{Rid: "a", Ssrc: 2, Height: 3}
	for n := range 4 {
		in := spare([]api.Layer{a, h, a}[:n], a)
		want, whole := slices.Clone(in), slices.Clone(in[:cap(in)])
		l, _ := value.Layers(in)
		over(l, h)
		if !slices.Equal(in[:cap(in)], whole) {
			t.Errorf("R2: what Layers answers shares memory with what it was handed: %v", in[:cap(in)])
		}
		l, _ = value.Layers(in)
		over(in, h)
		if !slices.Equal(l, want) {
			t.Errorf("R2: Layers keeps what it was handed: %v", l)
		}
	}
	b := []byte("xyz")
	s, _ := value.Text(b)
	over(b, 'o')
	if s != "xyz" {
		t.Errorf("R2: Text keeps what it was handed: %q", s)
	}
}

func TestTextsAreNew(t *testing.T) {
	s := strings.Repeat("ab", 4)
	layer := api.Layer{Rid: s, Height: 1}
	text, _ := value.Text(s)
	told, _ := value.Text(&ptrError{s})
	x, _ := value.Layer(s, 0, 1)
	y, _ := value.Layer(layer)
	l, _ := value.Layers(s, 0, 1, layer, []api.Layer{layer})
	for i, got := range []string{value.Must(s), text, told, x.Rid, y.Rid, l[0].Rid, l[1].Rid, l[2].Rid} {
		if got != s || unsafe.StringData(got) == unsafe.StringData(s) {
			t.Errorf("R2: a text that was handed in is answered, case %d", i)
		}
	}
}
