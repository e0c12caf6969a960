package ctl_test

import (
	"bytes"
	"math"
	"math/rand"
	"slices"
	"strings"
	"testing"
	"unsafe"

	"limelight/api"
	"limelight/ctl"
)

func layer(name string, ssrc uint32, height int) api.Layer {
	return api.Layer{Rid: name, Ssrc: ssrc, Height: height}
}

// some are n layers that may be, if there may be so many.
func some(n int) []api.Layer {
	var l []api.Layer
	for i := range n {
		l = append(l, layer("q-_"+string(rune('0'+i)), uint32(i)<<30|5, 180<<i))
	}
	return l
}

func publish(l ...api.Layer) api.Ctl {
	return api.Ctl{Kind: api.Publish, Layers: l}
}

// each is a right message of each kind, with nothing in it that is nothing.
func each() []api.Ctl {
	return []api.Ctl{
		{Kind: api.Join, Cap: 0x0102030405},
		{Kind: api.Leave},
		publish(some(3)...),
		{Kind: api.Subscribe, Peer: 5, Height: 720, Class: 3},
		{Kind: api.Unsubscribe, Peer: 4},
		{Kind: api.SetHeight, Peer: 3, Height: 8192},
		{Kind: api.SetClass, Peer: 2, Class: 1},
		{Kind: api.Rest, Layer: 2},
		{Kind: api.Play, Layer: 1},
		{Kind: api.Fault, Code: 255},
	}
}

// told is a message, and the bytes that the chapter tells of it.
type told struct {
	c api.Ctl
	b []byte
}

func toldOnes() []told {
	return []told{
		{api.Ctl{Kind: api.Join, Cap: 1}, []byte{1, 0, 10, 1, 8, 0, 0, 0, 0, 0, 0, 0, 1}},
		{api.Ctl{Kind: api.Join, Cap: 1 << 40}, []byte{1, 0, 10, 1, 8, 0, 0, 1, 0, 0, 0, 0, 0}},
		{api.Ctl{Kind: api.Join, Cap: 1<<40 - 1}, []byte{1, 0, 10, 1, 8, 0, 0, 0, 255, 255, 255, 255, 255}},
		{api.Ctl{Kind: api.Join, Cap: 0x0102030405}, []byte{1, 0, 10, 1, 8, 0, 0, 0, 1, 2, 3, 4, 5}},
		{api.Ctl{Kind: api.Leave}, []byte{2, 0, 0}},
		{api.Ctl{Kind: api.Leave, Layers: []api.Layer{}}, []byte{2, 0, 0}},
		{publish(layer("h", 1, 720)), []byte{3, 0, 9, 2, 7, 0, 0, 0, 1, 2, 208, 'h'}},
		{publish(layer("-_aZ09zA", math.MaxUint32, 8192)), []byte{3, 0, 16, 2, 14, 255, 255, 255, 255, 32, 0, '-', '_', 'a', 'Z', '0', '9', 'z', 'A'}},
		{publish(layer("0", 0, 1), layer("H", 0x01020304, 2)), []byte{3, 0, 18, 2, 7, 0, 0, 0, 0, 0, 1, '0', 2, 7, 1, 2, 3, 4, 0, 2, 'H'}},
		{publish(layer("lo", 9, 180), layer("l", 8, 360), layer("l0", 7, 720)),
			[]byte{3, 0, 29, 2, 8, 0, 0, 0, 9, 0, 180, 'l', 'o', 2, 7, 0, 0, 0, 8, 1, 104, 'l', 2, 8, 0, 0, 0, 7, 2, 208, 'l', '0'}},
		{publish(layer("abcdefgh", 1, 8190), layer("abcdefgH1"[:7], 2, 8191), layer("ABCDEFG8", 3, 8192)),
			slices.Concat([]byte{3, 0, 47, 2, 14, 0, 0, 0, 1, 31, 254}, []byte("abcdefgh"), []byte{2, 13, 0, 0, 0, 2, 31, 255}, []byte("abcdefg"), []byte{2, 14, 0, 0, 0, 3, 32, 0}, []byte("ABCDEFG8"))},
		{api.Ctl{Kind: api.Subscribe, Height: 1}, []byte{4, 0, 10, 3, 1, 0, 4, 2, 0, 1, 5, 1, 0}},
		{api.Ctl{Kind: api.Subscribe, Peer: 5, Height: 8192, Class: 3}, []byte{4, 0, 10, 3, 1, 5, 4, 2, 32, 0, 5, 1, 3}},
		{api.Ctl{Kind: api.Subscribe, Peer: 1, Height: 258, Class: 2}, []byte{4, 0, 10, 3, 1, 1, 4, 2, 1, 2, 5, 1, 2}},
		{api.Ctl{Kind: api.Unsubscribe}, []byte{5, 0, 3, 3, 1, 0}},
		{api.Ctl{Kind: api.Unsubscribe, Peer: 5}, []byte{5, 0, 3, 3, 1, 5}},
		{api.Ctl{Kind: api.SetHeight, Height: 1}, []byte{6, 0, 7, 3, 1, 0, 4, 2, 0, 1}},
		{api.Ctl{Kind: api.SetHeight, Peer: 5, Height: 8192}, []byte{6, 0, 7, 3, 1, 5, 4, 2, 32, 0}},
		{api.Ctl{Kind: api.SetClass}, []byte{7, 0, 6, 3, 1, 0, 5, 1, 0}},
		{api.Ctl{Kind: api.SetClass, Peer: 5, Class: 3}, []byte{7, 0, 6, 3, 1, 5, 5, 1, 3}},
		{api.Ctl{Kind: api.Rest}, []byte{8, 0, 3, 6, 1, 0}},
		{api.Ctl{Kind: api.Rest, Layer: 2}, []byte{8, 0, 3, 6, 1, 2}},
		{api.Ctl{Kind: api.Play}, []byte{9, 0, 3, 6, 1, 0}},
		{api.Ctl{Kind: api.Play, Layer: 2}, []byte{9, 0, 3, 6, 1, 2}},
		{api.Ctl{Kind: api.Fault}, []byte{10, 0, 3, 7, 1, 0}},
		{api.Ctl{Kind: api.Fault, Code: 13}, []byte{10, 0, 3, 7, 1, 13}},
		{api.Ctl{Kind: api.Fault, Code: 255}, []byte{10, 0, 3, 7, 1, 255}},
	}
}

func TestBytesAndRead(t *testing.T) {
	for i, c := range toldOnes() {
		if why := ctl.Right(c.c); why != api.OK {
			t.Errorf("P8.1: Right, case %d: %d", i, int(why))
		}
		if got, why := ctl.Bytes(c.c); why != api.OK || !slices.Equal(got, c.b) {
			t.Errorf("P8.2: Bytes, case %d: %v, %d, want %v", i, got, int(why), c.b)
		}
		if got, why := ctl.Read(c.b); why != api.OK || !ctl.Same(got, c.c) {
			t.Errorf("P8.3: Read, case %d: %v, %d", i, got, int(why))
		}
		holdNone(t, append(slices.Clone(c.b), 0), api.ErrForm)
		holdNone(t, slices.Concat(c.b, c.b), api.ErrForm)
		for n := range c.b {
			holdNone(t, c.b[:n], api.ErrShort)
		}
	}
}

// holdNone asks for that refusal of b, and for nothing beside it.
func holdNone(t *testing.T, b []byte, want api.Errno) {
	t.Helper()
	if c, why := ctl.Read(b); why != want || !ctl.Same(c, api.Ctl{}) {
		t.Errorf("P8.2: Read(%v): %v, %d, want %d", b, c, int(why), int(want))
	}
}

// holdRight asks for that refusal of c by Right and by Bytes.
func holdRight(t *testing.T, c api.Ctl, want api.Errno) {
	t.Helper()
	if why := ctl.Right(c); why != want {
		t.Errorf("P8.1: Right(%v): %d, want %d", c, int(why), int(want))
	}
	b, why := ctl.Bytes(c)
	if why != want || (len(b) == 0) != (why != api.OK) {
		t.Errorf("P8.2: Bytes(%v): %v, %d, want %d", c, b, int(why), int(want))
	}
}

// full is a message in which each field is such as its own kind may have it.
func full(kind int) api.Ctl {
	return api.Ctl{Kind: kind, Cap: 1, Layers: some(1), Peer: 1, Height: 1, Class: 1, Layer: 1, Code: 1}
}

func TestKindsThatAreNone(t *testing.T) {
	for _, kind := range []int{0, -1, 11, 12, 255, 256, 256 + api.Join, 256 + api.Leave, -256 + api.Leave, math.MaxInt, math.MinInt, 1<<32 + api.Leave} {
		holdRight(t, api.Ctl{Kind: kind}, api.ErrForm)
		holdRight(t, full(kind), api.ErrForm)
		holdRight(t, api.Ctl{Kind: kind, Cap: -1, Peer: -1, Height: -1, Class: -1, Layer: -1, Code: -1}, api.ErrForm)
		for _, c := range each() {
			c.Kind = kind
			holdRight(t, c, api.ErrForm)
		}
	}
}

// foreign are changes of each field to what is not zero, by the field's name.
func foreign() map[string][]func(c *api.Ctl) {
	m := map[string][]func(c *api.Ctl){
		"Layers": {func(c *api.Ctl) { c.Layers = some(1) }, func(c *api.Ctl) { c.Layers = some(4) }, func(c *api.Ctl) { c.Layers = []api.Layer{{}} }},
	}
	for _, n := range []int{1, 2, 3, -1, 255, 256, 1 << 32, math.MaxInt, math.MinInt} {
		m["Cap"] = append(m["Cap"], func(c *api.Ctl) { c.Cap = int64(n) })
		m["Peer"] = append(m["Peer"], func(c *api.Ctl) { c.Peer = n })
		m["Height"] = append(m["Height"], func(c *api.Ctl) { c.Height = n })
		m["Class"] = append(m["Class"], func(c *api.Ctl) { c.Class = n })
		m["Layer"] = append(m["Layer"], func(c *api.Ctl) { c.Layer = n })
		m["Code"] = append(m["Code"], func(c *api.Ctl) { c.Code = n })
	}
	return m
}

// owned are the fields of each kind, as package api tells them.
func owned() map[int]string {
	return map[int]string{
		api.Join: " Cap ", api.Leave: "", api.Publish: " Layers ", api.Subscribe: " Peer Height Class ", api.Unsubscribe: " Peer ",
		api.SetHeight: " Peer Height ", api.SetClass: " Peer Class ", api.Rest: " Layer ", api.Play: " Layer ", api.Fault: " Code ",
	}
}

// wrong is c with its own fields such as may not be.
func wrong(c api.Ctl) api.Ctl {
	w := api.Ctl{Kind: c.Kind}
	for what, change := range map[string]func(){
		" Cap ": func() { w.Cap = -1 }, " Layers ": func() { w.Layers = nil }, " Peer ": func() { w.Peer = -1 }, " Height ": func() { w.Height = -1 },
		" Class ": func() { w.Class = -1 }, " Layer ": func() { w.Layer = -1 }, " Code ": func() { w.Code = -1 },
	} {
		if strings.Contains(owned()[c.Kind], what) {
			change()
		}
	}
	return w
}

// TestFieldsThatAKindHasNot lays each such field into a message that is right else, and into one of which Right would tell something else.
func TestFieldsThatAKindHasNot(t *testing.T) {
	for _, c := range each() {
		for what, changes := range foreign() {
			if strings.Contains(owned()[c.Kind], " "+what+" ") {
				continue
			}
			for _, change := range changes {
				x, y := c, wrong(c)
				change(&x)
				change(&y)
				holdRight(t, x, api.ErrForm)
				holdRight(t, y, api.ErrForm)
			}
		}
		holdRight(t, c, api.OK)
	}
}

// TestEdges goes through each number at its bounds, in each kind that has it.
func TestEdges(t *testing.T) {
	far := []int64{math.MaxInt64, math.MinInt64, 1 << 32, 1<<32 + 1, -1 << 32, 256, 257, -255, 65536 + 1, 1 << 41, 1<<56 + 1}
	for _, c := range []struct {
		what        string
		kinds       []int
		set         func(c *api.Ctl, n int64)
		least, most int64
	}{
		{"Cap", []int{api.Join}, func(c *api.Ctl, n int64) { c.Cap = n }, 1, 1 << 40},
		{"Peer", []int{api.Subscribe, api.Unsubscribe, api.SetHeight, api.SetClass}, func(c *api.Ctl, n int64) { c.Peer = int(n) }, 0, 5},
		{"Height", []int{api.Subscribe, api.SetHeight}, func(c *api.Ctl, n int64) { c.Height = int(n) }, 1, 8192},
		{"Class", []int{api.Subscribe, api.SetClass}, func(c *api.Ctl, n int64) { c.Class = int(n) }, 0, 3},
		{"Layer", []int{api.Rest, api.Play}, func(c *api.Ctl, n int64) { c.Layer = int(n) }, 0, 2},
		{"Code", []int{api.Fault}, func(c *api.Ctl, n int64) { c.Code = int(n) }, 0, 255},
	} {
		for _, kind := range c.kinds {
			for _, n := range append([]int64{-2, -1, 0, 1, 2, c.most - 1, c.most, c.most + 1, 2 * c.most}, far...) {
				x := each()[kind-1]
				c.set(&x, n)
				if n < c.least || n > c.most {
					holdRight(t, x, api.ErrArg)
					continue
				}
				holdRight(t, x, api.OK)
				b, _ := ctl.Bytes(x)
				if got, why := ctl.Read(b); why != api.OK || !ctl.Same(got, x) {
					t.Errorf("P8.3: %s at %d: %v, %d", c.what, n, got, int(why))
				}
			}
		}
	}
}

// tellLayers tells by the chapter's words what Layers must answer.
func tellLayers(l []api.Layer) api.Errno {
	fine := len(l) >= 1 && len(l) <= 3
	for i, x := range l {
		letters := x.Rid != "" && len(x.Rid) <= 8
		for _, c := range []byte(x.Rid) {
			letters = letters && strings.IndexByte("abcdefghijklmnopqrstuvwxyzABCDEFGHIJKLMNOPQRSTUVWXYZ0123456789-_", c) >= 0
		}
		fine = fine && letters && x.Height >= 1 && x.Height <= 8192
		if i > 0 {
			fine = fine && x.Height > l[i-1].Height
		}
		for _, y := range l[i+1:] {
			fine = fine && !strings.EqualFold(x.Rid, y.Rid) && x.Ssrc != y.Ssrc
		}
	}
	if !fine {
		return api.ErrLayers
	}
	return api.OK
}

// tellRight tells by the chapter's words what Right must answer.
func tellRight(c api.Ctl) api.Errno {
	own, ok := owned()[c.Kind]
	if !ok {
		return api.ErrForm
	}
	why := api.OK
	for what, x := range map[string][3]int64{
		" Cap ": {c.Cap, 1, 1 << 40}, " Peer ": {int64(c.Peer), 0, 5}, " Height ": {int64(c.Height), 1, 8192}, " Class ": {int64(c.Class), 0, 3},
		" Layer ": {int64(c.Layer), 0, 2}, " Code ": {int64(c.Code), 0, 255}, " Layers ": {int64(len(c.Layers)), 0, math.MaxInt64},
	} {
		switch has := strings.Contains(own, what); {
		case !has && x[0] != 0:
			return api.ErrForm
		case has && (x[0] < x[1] || x[0] > x[2]):
			why = api.ErrArg
		}
	}
	if c.Kind == api.Publish {
		return tellLayers(c.Layers)
	}
	return why
}

// TestRightOfChance draws each field from what is at its bounds: mostly those that the kind has, else all of it would be ErrForm.
func TestRightOfChance(t *testing.T) {
	r := rand.New(rand.NewSource(8))
	count := map[api.Errno]int{}
	for range 200000 {
		c := api.Ctl{Kind: r.Intn(13) - 1}
		own := owned()[c.Kind]
		draw := func(what string, of ...int64) int64 {
			if strings.Contains(own, what) || r.Intn(30) == 0 {
				return of[r.Intn(len(of))]
			}
			return 0
		}
		c.Cap = draw(" Cap ", -1, 0, 1, 2, 1<<40, 1<<40+1)
		c.Peer = int(draw(" Peer ", -1, 0, 1, 2, 3, 4, 5, 6))
		c.Height = int(draw(" Height ", -1, 0, 1, 2, 8191, 8192, 8193))
		c.Class = int(draw(" Class ", -1, 0, 1, 2, 3, 4))
		c.Layer = int(draw(" Layer ", -1, 0, 1, 2, 3))
		c.Code = int(draw(" Code ", -1, 0, 1, 254, 255, 256))
		c.Layers = some(int(draw(" Layers ", 0, 1, 2, 3, 4)))
		want := tellRight(c)
		count[want]++
		holdRight(t, c, want)
		if b, why := ctl.Bytes(c); why == api.OK {
			if got, why := ctl.Read(b); why != api.OK || !ctl.Same(got, c) {
				t.Fatalf("P8.3: Read of Bytes(%v): %v, %d", c, got, int(why))
			}
		}
	}
	for _, why := range []api.Errno{api.OK, api.ErrForm, api.ErrArg, api.ErrLayers} {
		if count[why] < 1000 {
			t.Errorf("the draws: too few of %d: %d", int(why), count[why])
		}
	}
}

func holdLayers(t *testing.T, l []api.Layer, want api.Errno) {
	t.Helper()
	if why := ctl.Layers(l); why != want {
		t.Errorf("P8.1: Layers(%v): %d, want %d", l, int(why), int(want))
	}
	holdRight(t, publish(l...), want)
}

func TestLayers(t *testing.T) {
	a, b, c := layer("a", 1, 180), layer("b", 2, 360), layer("c", 3, 720)
	for _, l := range [][]api.Layer{
		{a}, {a, b}, {b, c}, {a, c}, {a, b, c}, {layer("12345678", 0, 1)}, {layer("-", math.MaxUint32, 8192)}, {layer("_", 0, 1), layer("-", math.MaxUint32, 2)},
		{layer("a", 3, 1), layer("aa", 2, 2), layer("aaa", 1, 3)}, {layer("a", 1, 8190), layer("B", 0, 8191), layer("A0", 2, 8192)}, {layer("z", 7, 1), layer("Y", 1<<31|7, 8192)},
	} {
		holdLayers(t, l, api.OK)
	}
	for _, l := range [][]api.Layer{
		nil, {}, {{}}, {a, b, c, layer("d", 4, 1440)}, some(4), some(30), {a, a}, {a, b, b}, {a, b, a}, {a, b, layer("d", 4, 360)},
		{layer("", 1, 180)}, {a, layer("", 2, 360)}, {layer("123456789", 1, 180)}, {a, b, layer("123456789", 3, 720)}, {layer("a.b", 1, 180)}, {layer("a b", 1, 180)},
		{layer("ä", 1, 180)}, {layer("\xff", 1, 180)}, {layer("a\x00", 1, 180)}, {layer("\u212a", 1, 180)}, {a, layer("世", 2, 360)}, {layer("@", 1, 1)}, {layer("[", 1, 1)}, {layer("`", 1, 1)}, {layer("{", 1, 1)}, {layer("/", 1, 1)}, {layer(":", 1, 1)},
		{a, layer("A", 2, 360)}, {layer("A", 1, 180), layer("a", 2, 360)}, {a, b, layer("A", 3, 720)}, {a, b, layer("B", 3, 720)}, {layer("Lo-1_Z", 1, 180), layer("lO-1_z", 2, 360)}, {layer("x", 1, 180), layer("x", 2, 360)},
		{a, layer("b", 1, 360)}, {a, b, layer("c", 1, 720)}, {a, b, layer("c", 2, 720)}, {layer("a", 0, 180), layer("b", 0, 360)}, {layer("a", math.MaxUint32, 180), layer("b", math.MaxUint32, 360)},
		{layer("a", 1, 0)}, {layer("a", 1, -1)}, {layer("a", 1, 8193)}, {layer("a", 1, math.MaxInt)}, {layer("a", 1, math.MinInt)}, {layer("a", 1, 65537)}, {layer("a", 1, 1<<32+1)},
		{a, layer("b", 2, 8193)}, {layer("a", 1, 0), b}, {layer("a", 1, -5), b}, {a, b, layer("c", 3, 8193)},
		{b, a}, {a, c, b}, {b, a, c}, {c, b, a}, {a, layer("b", 2, 180)}, {a, layer("b", 2, 179)}, {a, b, layer("c", 3, 360)}, {a, b, layer("c", 3, 359)}, {a, b, layer("c", 3, 181)},
	} {
		holdLayers(t, l, api.ErrLayers)
	}
}

// TestLayersOfEach goes through all lists of up to three out of layers that clash in each way, and through some of four.
func TestLayersOfEach(t *testing.T) {
	var all []api.Layer
	for _, name := range []string{"", "a", "A", "b", "a.", "abcdefgh", "abcdefghi"} {
		for _, ssrc := range []uint32{0, 1, math.MaxUint32} {
			for _, height := range []int{0, 1, 2, 8192, 8193} {
				all = append(all, layer(name, ssrc, height))
			}
		}
	}
	fine := 0
	hold := func(l ...api.Layer) {
		want := tellLayers(l)
		if why := ctl.Layers(l); why != want {
			t.Fatalf("P8.1: Layers(%v): %d, want %d", l, int(why), int(want))
		}
		if want == api.OK {
			fine++
		}
	}
	r := rand.New(rand.NewSource(9))
	for _, x := range all {
		hold(x)
		for _, y := range all {
			hold(x, y)
			for _, z := range all {
				hold(x, y, z)
			}
			hold(x, y, all[r.Intn(len(all))], all[r.Intn(len(all))])
		}
	}
	if fine < 100 {
		t.Errorf("the draws: too few that may be: %d", fine)
	}
}

// number is the bytes' number, the highest first.
func number(b []byte) int64 {
	var n int64
	for _, c := range b {
		n = n*256 + int64(c)
	}
	return n
}

// tellRead tells by the chapter's words what Read must answer: field by field, each where it must stand.
func tellRead(b []byte) (api.Ctl, api.Errno) {
	if len(b) < 3 || int64(len(b)-3) < number(b[1:3]) {
		return api.Ctl{}, api.ErrShort
	}
	if int64(len(b)-3) > number(b[1:3]) {
		return api.Ctl{}, api.ErrForm
	}
	c, rest, fine := api.Ctl{Kind: int(b[0])}, b[3:], true
	for i, what := range []string{" Cap ", " Layers ", " Peer ", " Height ", " Class ", " Layer ", " Code "} {
		if !strings.Contains(owned()[c.Kind], what) {
			continue
		}
		if what == " Layers " {
			c.Layers, rest, fine = tellReadLayers(rest)
			continue
		}
		size := []int{8, 0, 1, 2, 1, 1, 1}[i]
		if len(rest) < 2+size || rest[0] != byte(i+1) || rest[1] != byte(size) {
			return api.Ctl{}, api.ErrForm
		}
		n := number(rest[2 : 2+size])
		rest = rest[2+size:]
		switch what {
		case " Cap ":
			c.Cap = n
		case " Peer ":
			c.Peer = int(n)
		case " Height ":
			c.Height = int(n)
		case " Class ":
			c.Class = int(n)
		case " Layer ":
			c.Layer = int(n)
		case " Code ":
			c.Code = int(n)
		}
	}
	if !fine || len(rest) > 0 || tellRight(c) != api.OK {
		return api.Ctl{}, api.ErrForm
	}
	return c, api.OK
}

// tellReadLayers tells which layers b begins with, and what is behind them.
func tellReadLayers(b []byte) ([]api.Layer, []byte, bool) {
	var l []api.Layer
	for len(b) > 0 {
		if len(b) < 8 || b[0] != 2 || b[1] < 6 || len(b) < 2+int(b[1]) {
			return nil, nil, false
		}
		end := 2 + int(b[1])
		l = append(l, layer(string(b[8:end]), uint32(number(b[2:6])), int(number(b[6:8]))))
		b = b[end:]
	}
	return l, nil, true
}

// holdRead holds Read against the chapter's words, and Bytes of what it answers against b.
func holdRead(t *testing.T, b []byte) api.Errno {
	t.Helper()
	want, no := tellRead(b)
	c, why := ctl.Read(b)
	if why != no || !ctl.Same(c, want) {
		t.Fatalf("P8.2: Read(%v): %v, %d, want %v, %d", b, c, int(why), want, int(no))
	}
	if why == api.OK {
		if again, no := ctl.Bytes(c); no != api.OK || !slices.Equal(again, b) || ctl.Right(c) != api.OK {
			t.Fatalf("P8.2: Bytes of Read(%v): %v, %d", b, again, int(no))
		}
	}
	return why
}

// TestReadOfWhatIsShort tells of each count what it is to more bytes than there are, and to fewer, ahead of all that may be wrong in them.
func TestReadOfWhatIsShort(t *testing.T) {
	for _, b := range [][]byte{nil, {}, {0}, {2}, {2, 0}, {200, 255}, {0, 0, 1}, {2, 0, 1}, {2, 1, 0}, {2, 255, 255}, {11, 0, 4, 1, 2, 3}, {8, 0, 4, 6, 1, 0}, {8, 1, 3, 6, 1, 0}} {
		holdNone(t, b, api.ErrShort)
	}
	for _, b := range [][]byte{{2, 0, 0, 0}, {2, 0, 0, 5}, {8, 0, 3, 6, 1, 0, 0}, {8, 0, 2, 6, 1, 0}, {8, 0, 0, 6, 1, 0}, {0, 0, 0}, {11, 0, 0}, {255, 0, 0}, {0, 0, 0, 0}} {
		holdNone(t, b, api.ErrForm)
	}
	for _, many := range []int{255, 256, 257, 65534, 65535} {
		b := make([]byte, 3+many)
		b[0], b[1], b[2] = 3, byte(many>>8), byte(many)
		holdNone(t, b[:len(b)-1], api.ErrShort)
		holdNone(t, b, api.ErrForm)
		holdNone(t, append(b, 0), api.ErrForm)
	}
	holdNone(t, append([]byte{2, 0, 0}, make([]byte, 65536)...), api.ErrForm) // of a count that is the lowest two bytes of more
	holdNone(t, append([]byte{8, 0, 3, 6, 1, 1}, make([]byte, 1<<16)...), api.ErrForm)
}

// TestReadOfManyFields fills a message with as many fields as go into it.
func TestReadOfManyFields(t *testing.T) {
	for _, field := range [][]byte{{2, 0}, {2, 7, 0, 0, 0, 1, 0, 1, 'a'}, {6, 1, 0}, {1, 8, 0, 0, 0, 0, 0, 0, 0, 1}, {0, 0}, {9, 255}, {2, 255}} {
		for kind := range 12 {
			body := bytes.Repeat(field, 65535/len(field))
			holdNone(t, slices.Concat([]byte{byte(kind), byte(len(body) >> 8), byte(len(body))}, body), api.ErrForm)
		}
	}
}

// message is those fields behind a head of that kind.
func message(kind byte, fields ...[]byte) []byte {
	body := slices.Concat(fields...)
	return slices.Concat([]byte{kind, byte(len(body) >> 8), byte(len(body))}, body)
}

// cut parts a message's bytes into its fields.
func cut(b []byte) [][]byte {
	var l [][]byte
	for b = b[3:]; len(b) > 0; b = b[2+b[1]:] {
		l = append(l, slices.Clone(b[:2+b[1]]))
	}
	return l
}

// TestReadOfOtherFields lets fields be missing, twice, in another order, of another length, of another kind.
func TestReadOfOtherFields(t *testing.T) {
	var more [][]byte // a field of each name, of each length
	for name := range byte(10) {
		for size := range byte(18) {
			for last := range byte(2) {
				data := make([]byte, size)
				if size > 0 {
					data[size-1] = last
				}
				more = append(more, append([]byte{name, size}, data...))
			}
		}
	}
	for _, c := range toldOnes() {
		fields := cut(c.b)
		if !slices.Equal(message(c.b[0], fields...), c.b) {
			t.Fatalf("the test's own cut of %v: %v", c.b, fields)
		}
		for i, f := range fields {
			missing := slices.Delete(slices.Clone(fields), i, i+1)
			if c.c.Kind != api.Publish || len(fields) == 1 {
				holdNone(t, message(c.b[0], missing...), api.ErrForm)
			}
			holdRead(t, message(c.b[0], missing...))
			for j := range len(fields) + 1 {
				holdNone(t, message(c.b[0], slices.Insert(slices.Clone(fields), j, f)...), api.ErrForm)
				if j < len(fields) && j != i {
					other := slices.Clone(fields)
					other[i], other[j] = other[j], other[i]
					holdNone(t, message(c.b[0], other...), api.ErrForm)
				}
			}
			for size := range len(f) { // fewer bytes than it has, said and not said
				shorter := append([]byte{f[0], byte(max(0, size-2))}, f[2:max(2, size)]...)
				for _, g := range [][]byte{shorter, f[:size]} {
					other := slices.Clone(fields)
					other[i] = g
					holdRead(t, message(c.b[0], other...))
					if c.c.Kind != api.Publish {
						holdNone(t, message(c.b[0], other...), api.ErrForm)
					}
				}
			}
			longer := slices.Clone(fields)
			longer[i] = slices.Concat([]byte{f[0], f[1] + 1, 0}, f[2:])
			holdNone(t, message(c.b[0], longer...), api.ErrForm)
		}
		for _, g := range more {
			for j := range len(fields) + 1 {
				holdRead(t, message(c.b[0], slices.Insert(slices.Clone(fields), j, g)...))
			}
			for j := range fields {
				other := slices.Clone(fields)
				other[j] = g
				holdRead(t, message(c.b[0], other...))
			}
		}
	}
}

// TestReadOfEachByteTurned turns each byte into each other one, alone and with a second one that is turned by chance.
func TestReadOfEachByteTurned(t *testing.T) {
	r := rand.New(rand.NewSource(10))
	count := map[api.Errno]int{}
	for _, c := range toldOnes() {
		for i := range c.b {
			for n := range 256 {
				b := slices.Clone(c.b)
				b[i] = byte(n)
				count[holdRead(t, b)]++
				b[r.Intn(len(b))] = byte(r.Intn(256))
				holdRead(t, b)
				holdRead(t, b[:r.Intn(len(b))])
			}
		}
	}
	for _, why := range []api.Errno{api.OK, api.ErrForm, api.ErrShort} {
		if count[why] < 1000 {
			t.Errorf("the draws: too few of %d: %d", int(why), count[why])
		}
	}
}

// TestReadOfSmallOnes goes through all messages of up to four bytes behind the head that are made of few bytes.
func TestReadOfSmallOnes(t *testing.T) {
	few := []byte{0, 1, 2, 3, 4, 5, 6, 7, 8, 255}
	for kind := range byte(13) {
		for size := range byte(5) {
			at := make([]int, size)
			for {
				b := []byte{kind, 0, size}
				for _, i := range at {
					b = append(b, few[i])
				}
				holdRead(t, b)
				i := 0
				for i < len(at) && at[i] == len(few)-1 {
					at[i] = 0
					i++
				}
				if i == len(at) {
					break
				}
				at[i]++
			}
		}
	}
}

// chance is a right message by chance.
func chance(r *rand.Rand) api.Ctl {
	c := api.Ctl{Kind: 1 + r.Intn(10)}
	own := owned()[c.Kind]
	for what, lay := range map[string]func(){
		" Cap ":    func() { c.Cap = 1 + r.Int63n(1<<(1+r.Intn(40))) },
		" Peer ":   func() { c.Peer = r.Intn(6) },
		" Height ": func() { c.Height = 1 + r.Intn(8192) },
		" Class ":  func() { c.Class = r.Intn(4) },
		" Layer ":  func() { c.Layer = r.Intn(3) },
		" Code ":   func() { c.Code = r.Intn(256) },
		" Layers ": func() { c.Layers = chanceLayers(r) },
	} {
		if strings.Contains(own, what) {
			lay()
		}
	}
	return c
}

func chanceLayers(r *rand.Rand) []api.Layer {
	const letters = "abcdefghijklmnopqrstuvwxyzABCDEFGHIJKLMNOPQRSTUVWXYZ0123456789-_"
	for {
		var l []api.Layer
		height := 0
		for range 1 + r.Intn(3) {
			name := make([]byte, 1+r.Intn(8))
			for i := range name {
				name[i] = letters[r.Intn(len(letters))]
			}
			height += 1 + r.Intn(2730)
			l = append(l, layer(string(name), r.Uint32(), height))
		}
		if tellLayers(l) == api.OK {
			return l
		}
	}
}

func TestReadOfBytes(t *testing.T) {
	r := rand.New(rand.NewSource(11))
	for range 30000 {
		c := chance(r)
		b, why := ctl.Bytes(c)
		if why != api.OK {
			t.Fatalf("P8.2: Bytes(%v): %d", c, int(why))
		}
		if got, why := ctl.Read(b); why != api.OK || !ctl.Same(got, c) {
			t.Fatalf("P8.3: Read of Bytes(%v): %v, %d", c, got, int(why))
		}
		holdRead(t, b)
		b[r.Intn(len(b))] ^= 1 << r.Intn(8)
		holdRead(t, b)
	}
}

// TestReadOfChance reads what is none: W3 asks that it is refused, and nothing more.
func TestReadOfChance(t *testing.T) {
	r := rand.New(rand.NewSource(12))
	for range 100000 {
		b := make([]byte, r.Intn(40))
		r.Read(b)
		if len(b) > 3 && r.Intn(4) > 0 {
			b[0], b[1], b[2] = b[0]%12, 0, byte(len(b)-3)
			b[3] %= 8
		}
		holdRead(t, b)
	}
}

func TestSame(t *testing.T) {
	base := func() api.Ctl { // it may not be, and no field of it is nothing
		return api.Ctl{Kind: 99, Cap: -2, Layers: []api.Layer{layer("a.b", 7, -4), layer("\xff", 7, 9000)}, Peer: 300, Height: -4, Class: 5, Layer: -6, Code: 777}
	}
	for what, change := range map[string]func(c *api.Ctl){
		"Kind": func(c *api.Ctl) { c.Kind += 256 }, "Cap": func(c *api.Ctl) { c.Cap ^= 1 << 62 }, "Peer": func(c *api.Ctl) { c.Peer += 256 }, "Height": func(c *api.Ctl) { c.Height += 65536 },
		"Class": func(c *api.Ctl) { c.Class += 256 }, "Layer": func(c *api.Ctl) { c.Layer -= 256 }, "Code": func(c *api.Ctl) { c.Code++ },
		"a layer less": func(c *api.Ctl) { c.Layers = c.Layers[:1] }, "a layer more": func(c *api.Ctl) { c.Layers = append(c.Layers, api.Layer{}) }, "no layers": func(c *api.Ctl) { c.Layers = nil },
		"layers turned": func(c *api.Ctl) { slices.Reverse(c.Layers) }, "a layer's Ssrc": func(c *api.Ctl) { c.Layers[1].Ssrc ^= 1 << 31 }, "a layer's Height": func(c *api.Ctl) { c.Layers[0].Height += 65536 },
		"a Rid": func(c *api.Ctl) { c.Layers[1].Rid = "b" }, "a great letter": func(c *api.Ctl) { c.Layers[0].Rid = "A.b" }, "a broken byte": func(c *api.Ctl) { c.Layers[1].Rid = "\xfe" },
		"U+FFFD for a broken byte": func(c *api.Ctl) { c.Layers[1].Rid = "\ufffd" }, "a longer Rid": func(c *api.Ctl) { c.Layers[0].Rid += "\x00" }, "no Rid": func(c *api.Ctl) { c.Layers[0].Rid = "" },
	} {
		a, b := base(), base()
		change(&b)
		if ctl.Same(a, b) || ctl.Same(b, a) {
			t.Errorf("P8.2: Same, with another %s: true", what)
		}
		if !ctl.Same(b, b) {
			t.Errorf("P8.2: Same, with another %s on both sides: false", what)
		}
	}
	if !ctl.Same(base(), base()) || !ctl.Same(api.Ctl{}, api.Ctl{}) {
		t.Error("P8.2: Same of the same: false")
	}
	if !ctl.Same(api.Ctl{Kind: api.Leave}, api.Ctl{Kind: api.Leave, Layers: []api.Layer{}}) {
		t.Error("R4: Same of nil and of an empty list: false")
	}
	for i, a := range each() {
		for j, b := range each() {
			if ctl.Same(a, b) != (i == j) {
				t.Errorf("P8.2: Same of kinds %d, %d: %v", a.Kind, b.Kind, i != j)
			}
		}
	}
}

// TestGreatOnes hands in lists and texts of great length.
func TestGreatOnes(t *testing.T) {
	many := make([]api.Layer, 1<<20)
	for i := range many {
		many[i] = layer("a", uint32(i), i)
	}
	holdLayers(t, many, api.ErrLayers)
	holdRight(t, api.Ctl{Kind: api.Leave, Layers: many}, api.ErrForm)
	holdLayers(t, []api.Layer{layer(strings.Repeat("a", 1<<20), 1, 1)}, api.ErrLayers)
	holdLayers(t, []api.Layer{layer("a", 1, 1), layer(strings.Repeat("\xff", 1<<20), 2, 2)}, api.ErrLayers)
	if !ctl.Same(publish(many...), publish(many...)) || ctl.Same(publish(many...), publish(many[1:]...)) {
		t.Error("P8.2: Same of many layers")
	}
	holdNone(t, make([]byte, 1<<20), api.ErrForm)
	holdNone(t, bytes.Repeat([]byte{255}, 1<<20), api.ErrForm)
}

// over writes over all of a list, its spare room too.
func over[E any](l []E, e E) {
	l = l[:cap(l)]
	for i := range l {
		l[i] = e
	}
}

// TestMemoryOfRead lays a message into room that goes on, and writes over what was read, and over what was answered.
func TestMemoryOfRead(t *testing.T) {
	for _, want := range each() {
		b, _ := ctl.Bytes(want)
		whole := append(slices.Clone(b), bytes.Repeat([]byte{0xee}, 40)...)
		before := slices.Clone(whole)
		c, why := ctl.Read(whole[:len(b)])
		if why != api.OK || !ctl.Same(c, want) || !slices.Equal(whole, before) {
			t.Fatalf("R5: Read: %v, %d", c, int(why))
		}
		over(whole, 0x55)
		if !ctl.Same(c, want) {
			t.Errorf("R2: Read keeps what it was handed: %v", c)
		}
		copy(whole, before)
		over(c.Layers, layer("x", 9, 9))
		if !slices.Equal(whole, before) {
			t.Errorf("R2: what Read answers shares memory: %v", whole)
		}
		if again, why := ctl.Read(whole[:len(b)]); why != api.OK || !ctl.Same(again, want) {
			t.Errorf("R4: Read anew: %v, %d", again, int(why))
		}
	}
	b, _ := ctl.Bytes(publish(some(3)...))
	c, _ := ctl.Read(b)
	d, _ := ctl.Read(b)
	seen := map[*byte]bool{}
	for _, l := range slices.Concat(c.Layers, d.Layers) {
		seen[unsafe.StringData(l.Rid)] = true
	}
	if len(seen) != 6 {
		t.Errorf("R2: names that Read answers share memory: %d of 6", len(seen))
	}
	short := []byte{8, 0, 3, 6, 1, 1}
	holdNone(t, short[:5], api.ErrShort)
	if _, why := ctl.Read(short[:2]); why != api.ErrShort {
		t.Errorf("R5: Read reads behind the end: %d", int(why))
	}
}

// TestMemoryOfWhatIsHandedIn hands in layers with room behind them, and writes over what is answered.
func TestMemoryOfWhatIsHandedIn(t *testing.T) {
	l := append(some(2), layer("A", 88, 1), layer("", 0, 0))
	before := slices.Clone(l)
	c := publish(some(2)...)
	c.Layers = l[:2]
	b, why := ctl.Bytes(c)
	plain, _ := ctl.Bytes(publish(some(2)...))
	if why != api.OK || !slices.Equal(b, plain) || ctl.Right(c) != api.OK || ctl.Layers(l[:2]) != api.OK || !ctl.Same(c, publish(some(2)...)) {
		t.Errorf("R5: Bytes: %v, %d", b, int(why))
	}
	over(b, 0x55)
	if !slices.Equal(l, before) {
		t.Errorf("R2, R5: Bytes changed what it was handed, or shares it: %v", l)
	}
	b, _ = ctl.Bytes(c)
	over(l, layer("y", 9, 9))
	if !slices.Equal(b, plain) {
		t.Errorf("R2: Bytes keeps what it was handed: %v", b)
	}
	if ctl.Right(api.Ctl{Kind: api.Leave, Layers: before[:0]}) != api.OK {
		t.Error("R4: Right of an empty list with room behind it")
	}
	for _, c := range each() {
		first, _ := ctl.Bytes(c)
		second, _ := ctl.Bytes(c)
		over(first, 0x55)
		third, _ := ctl.Bytes(c)
		if !slices.Equal(second, third) || slices.Equal(first, second) {
			t.Errorf("R2: what Bytes answers shares memory: %v, %v", second, third)
		}
	}
}
