package limit_test

import (
	"cmp"
	"math"
	"math/big"
	"math/rand"
	"slices"
	"testing"

	"limelight/api"
	"limelight/bound"
	"limelight/limit"
	"limelight/pace"
)

const (
	top       = math.MaxInt64
	bottom    = math.MinInt64
	highest   = math.MaxUint64
	lastOwner = math.MaxUint32
	most      = 1 << 40 // of a cap, of a tuple's Rate, of rate.Bytes
	hold      = 1000000 // Hold, as the document says it
	room      = 6       // MaxTuples
)

type list = []api.Tuple

func one(owner uint32, rate uint64, over int) api.Tuple {
	return api.Tuple{Owner: owner, Rate: rate, Over: over}
}

// kept is a tuple with its time, in a number of any size.
type kept struct {
	api.Tuple
	until *big.Int
}

// told is a limit by the chapter's words.
type told struct {
	most int64
	said bool // a REMB was told
	remb uint64
	all  []kept // in the order in which their Owners came
}

func tell(cap int64) *told {
	switch {
	case cap < 1:
		return &told{most: 1}
	case cap > most:
		return &told{most: most}
	}
	return &told{most: cap}
}

// until answers now and Hold, held at 2^63 - 1.
func until(now int64) *big.Int {
	n := big.NewInt(now)
	n.Add(n, big.NewInt(hold))
	if n.Cmp(big.NewInt(top)) > 0 {
		n.SetInt64(top)
	}
	return n
}

func (m *told) tmmbr(t api.Tuple, now int64) bool {
	for i, k := range m.all {
		if k.Owner == t.Owner {
			m.all[i] = kept{t, until(now)}
			return true
		}
	}
	if len(m.all) == room {
		return false
	}
	m.all = append(m.all, kept{t, until(now)})
	return true
}

func (m *told) tick(now int64) int {
	var stay []kept
	for _, k := range m.all {
		if k.until.Cmp(big.NewInt(now)) > 0 {
			stay = append(stay, k)
		}
	}
	n := len(m.all) - len(stay)
	m.all = stay
	return n
}

// inBytes answers how many whole bytes so many bits are, held at 2^40.
func inBytes(bits uint64) int64 {
	n := new(big.Int).SetUint64(bits)
	n.Quo(n, big.NewInt(8))
	if n.Cmp(big.NewInt(most)) > 0 {
		return most
	}
	return n.Int64()
}

func (m *told) rate() int64 {
	all := []int64{m.most}
	if m.said {
		all = append(all, inBytes(m.remb))
	}
	for _, k := range m.all {
		all = append(all, inBytes(min(k.Rate, most))) // bound holds a tuple's bits there
	}
	return slices.Min(all)
}

func (m *told) tuples() list {
	var l list
	for _, k := range m.all {
		l = append(l, k.Tuple)
	}
	slices.SortFunc(l, func(a, b api.Tuple) int { return cmp.Compare(a.Owner, b.Owner) })
	return l
}

// Kinds of calls that work on a limit.
const (
	tmmbr = iota
	remb
	tick
)

// call is one of them: of tmmbr t and now, of remb t.Rate, of tick now.
type call struct {
	kind int
	t    api.Tuple
	now  int64
}

func say(owner uint32, rate uint64, over int, now int64) call {
	return call{tmmbr, one(owner, rate, over), now}
}

func estimate(rate uint64) call { return call{kind: remb, t: one(0, rate, 0)} }

func at(now int64) call { return call{kind: tick, now: now} }

// both are a limit and what must be told of it; calls are those that it has had.
type both struct {
	cap   int64
	l     *limit.Limit
	m     *told
	calls []call
}

func pair(t *testing.T, cap int64, calls ...call) *both {
	t.Helper()
	p := &both{cap: cap, l: limit.New(cap), m: tell(cap)}
	p.hold(t)
	for _, c := range calls {
		p.do(t, c)
	}
	return p
}

// do makes a call, and holds what it answers, and what the others answer behind it, against the chapter's words.
func (p *both) do(t *testing.T, c call) {
	t.Helper()
	p.calls = append(p.calls, c)
	switch c.kind {
	case tmmbr:
		if got, want := p.l.Tmmbr(c.t, c.now), p.m.tmmbr(c.t, c.now); got != want {
			t.Fatalf("P14.1: New(%d), calls %v: Tmmbr: %v", p.cap, p.calls, got)
		}
	case remb:
		p.l.Remb(c.t.Rate)
		p.m.remb, p.m.said = c.t.Rate, true
	case tick:
		if got, want := p.l.Tick(c.now), p.m.tick(c.now); got != want {
			t.Fatalf("P14.1: New(%d), calls %v: Tick: %d, want %d", p.cap, p.calls, got, want)
		}
	}
	p.hold(t)
}

func (p *both) hold(t *testing.T) {
	t.Helper()
	want := p.m.tuples()
	if got := p.l.Rate(); got != p.m.rate() {
		t.Fatalf("P14.1: New(%d), calls %v: Rate: %d, want %d", p.cap, p.calls, got, p.m.rate())
	}
	if got := p.l.Tuples(); !slices.Equal(got, want) {
		t.Fatalf("P14.1: New(%d), calls %v: Tuples: %v, want %v", p.cap, p.calls, got, want)
	}
	if got := p.l.Set(); !slices.Equal(got, bound.Set(want)) {
		t.Fatalf("P14.1: New(%d), calls %v: Set: %v, want %v", p.cap, p.calls, got, bound.Set(want))
	}
}

// is holds the Rate and the Owners of a limit against what was found by hand.
func is(t *testing.T, what string, l *limit.Limit, rate int64, owners ...uint32) {
	t.Helper()
	var got []uint32
	for _, a := range l.Tuples() {
		got = append(got, a.Owner)
	}
	if l.Rate() != rate || !slices.Equal(got, owners) {
		t.Errorf("P14.1: %s: Rate %d, Owners %v, want %d, %v", what, l.Rate(), got, rate, owners)
	}
}

// times are those about which something may change.
func times() []int64 {
	return []int64{bottom, bottom + 1, bottom + hold, -hold - 1, -hold, -hold + 1, -1, 0, 1, hold - 1, hold, hold + 1, 1 << 50, 1<<53 + 1, top - hold - 1, top - hold, top - hold + 1, top - 1, top}
}

// rates are the bits about which something may change.
func rates() []uint64 {
	return []uint64{0, 1, 7, 8, 9, 15, 16, 79, 80, 8000, most - 8, most - 1, most, most + 1, most + 8, 8*most - 1, 8 * most, 8*most + 8, 1<<63 - 1, 1 << 63, highest - 1, highest}
}

// overs are those about which something may change.
func overs() []int {
	return []int{math.MinInt, -512, -1, 0, 1, 28, 40, 510, 511, 512, 513, math.MaxInt}
}

func caps() []int64 {
	return []int64{bottom, -1 << 40, -7, -1, 0, 1, 2, 5, 10, 1000, most/8 - 1, most / 8, most/8 + 1, most - 1, most, most + 1, 1 << 41, top - 1, top}
}

func TestRuns(t *testing.T) {
	l := limit.New(5)
	is(t, "the chapter's run", l, 5)
	l = limit.New(1000)
	l.Remb(80)
	is(t, "its first example", l, 10)
	l.Tmmbr(one(4, 16, 40), 7)
	is(t, "ahead of its second example", l, 2, 4)
	if n := l.Tick(7 + hold); n != 1 {
		t.Errorf("P14.1: Tick behind Hold: %d", n)
	}
	is(t, "its second example", l, 10)
}

func TestNew(t *testing.T) {
	for _, c := range []struct{ cap, want int64 }{
		{bottom, 1}, {-1 << 40, 1}, {-7, 1}, {-1, 1}, {0, 1}, {1, 1}, {2, 2}, {5, 5}, {1000, 1000}, {most - 1, most - 1}, {most, most}, {most + 1, most}, {1 << 41, most}, {top, most},
	} {
		l := limit.New(c.cap)
		is(t, "a new one", l, c.want)
		if s := l.Set(); len(s) != 0 {
			t.Errorf("P14.1: New(%d): Set: %v", c.cap, s)
		}
		for _, now := range times() {
			if n := l.Tick(now); n != 0 {
				t.Errorf("P14.1: New(%d): Tick(%d): %d", c.cap, now, n)
			}
		}
		is(t, "a new one behind Ticks", l, c.want)
	}
}

// TestTmmbrOfOne tells one tuple of each of the edges, at each of the times.
func TestTmmbrOfOne(t *testing.T) {
	for _, owner := range []uint32{0, 1, 1<<31 - 1, 1 << 31, lastOwner - 1, lastOwner} {
		for _, bits := range rates() {
			for _, over := range overs() {
				for _, cap := range []int64{0, 9, most, top} {
					p := pair(t, cap, say(owner, bits, over, 5))
					if got := p.l.Tuples(); !slices.Equal(got, list{one(owner, bits, over)}) {
						t.Errorf("P14.1: Tuples of %d, %d, %d: %v", owner, bits, over, got)
					}
				}
			}
		}
	}
}

// TestTuplesAreNotHeld: they are told as they came; Set tells the held ones.
func TestTuplesAreNotHeld(t *testing.T) {
	l := limit.New(top)
	wild := list{one(0, most-1, math.MinInt), one(1, highest, math.MaxInt)}
	for _, a := range wild {
		if !l.Tmmbr(a, 0) {
			t.Errorf("P14.1: Tmmbr(%v): false", a)
		}
	}
	if got := l.Tuples(); !slices.Equal(got, wild) {
		t.Errorf("P14.1: Tuples: %v, want %v", got, wild)
	}
	if got, want := l.Set(), (list{one(0, most-1, 0), one(1, most, 511)}); !slices.Equal(got, want) {
		t.Errorf("P14.1: Set: %v, want %v", got, want)
	}
}

// TestTimes: a tuple is there up to now and Hold, and is gone from then on.
func TestTimes(t *testing.T) {
	for _, c := range []struct{ now, until int64 }{
		{0, hold}, {1, hold + 1}, {hold - 1, 2*hold - 1}, {hold, 2 * hold}, {1 << 50, 1<<50 + hold}, {1<<53 + 1, 1<<53 + 1 + hold},
		{top - hold - 1, top - 1}, {top - hold, top}, {top - hold + 1, top}, {top - 1, top}, {top, top}, // held at 2^63 - 1
		{-1, hold - 1}, {1 - hold, 1}, {-hold, 0}, {-hold - 1, -1}, {-2 * hold, -hold}, {-1 << 50, hold - 1<<50}, // a time below 0 is one as the others are
		{bottom + hold, bottom + 2*hold}, {bottom + 1, bottom + hold + 1}, {bottom, bottom + hold},
	} {
		l := limit.New(100)
		for _, first := range []int64{bottom, c.until - hold, c.until - 2, c.until - 1} { // just ahead of it, last
			l.Tmmbr(one(3, 80, 1), c.now)
			if n := l.Tick(first); n != 0 {
				t.Errorf("P14.1: told at %d: Tick(%d): %d", c.now, first, n)
			}
			is(t, "ahead of its time", l, 10, 3)
		}
		if n := l.Tick(c.until); n != 1 {
			t.Errorf("P14.1: told at %d: Tick(%d): %d", c.now, c.until, n)
		}
		is(t, "at its time", l, 100)
		l.Tmmbr(one(3, 80, 1), c.now)
		if n := l.Tick(top); n != 1 {
			t.Errorf("P14.1: told at %d: Tick behind its time: %d", c.now, n)
		}
		is(t, "behind its time", l, 100)
		if n := l.Tick(top); n != 0 {
			t.Errorf("P14.1: told at %d: Tick twice: %d", c.now, n)
		}
	}
}

// TestTimesWithTicks has each time of Tmmbr with each time of Tick.
func TestTimesWithTicks(t *testing.T) {
	for _, now := range times() {
		for _, end := range times() {
			for d := int64(-1); d <= 1; d++ {
				p := pair(t, 50, say(7, 80, 3, now))
				p.do(t, at(until(now).Int64()-1))
				p.do(t, at(end))
				p.do(t, say(7, 160, 3, end))
				p.do(t, at(min(until(end).Int64(), top-1)+d))
			}
		}
	}
}

// TestTmmbrAgain: the tuple of an Owner who has one is another one then, with a time of its own, be it earlier.
func TestTmmbrAgain(t *testing.T) {
	for _, c := range []struct {
		what                string
		first, again, until int64
	}{
		{"later", 100, 300, 300 + hold}, {"earlier", 300, 100, 100 + hold}, {"at the same time", 100, 100, 100 + hold}, {"at the end of time", 5, top, top}, {"from the end of time", top, 5, 5 + hold}, {"from above 0 to below it", 5, -5, hold - 5}, {"below 0, later", -300, -100, hold - 100}, {"below 0, earlier", -100, -300, hold - 300}, {"so that it ends below 0", 5, -hold - 5, -5}, {"from the first time", bottom, 5, 5 + hold}, {"to the first time", 5, bottom, bottom + hold},
	} {
		l := limit.New(100)
		l.Tmmbr(one(1, 720, 9), top)
		l.Tmmbr(one(8, 80, 9), c.first)
		if !l.Tmmbr(one(8, 160, 2), c.again) {
			t.Errorf("P14.1: %s: Tmmbr again: false", c.what)
		}
		if got := l.Tuples(); !slices.Equal(got, list{one(1, 720, 9), one(8, 160, 2)}) {
			t.Errorf("P14.1: %s: Tuples: %v", c.what, got)
		}
		if n := l.Tick(c.until - 1); n != 0 {
			t.Errorf("P14.1: %s: Tick just ahead of its time: %d", c.what, n)
		}
		is(t, c.what, l, 20, 1, 8)
		l.Tick(c.until)
		if got := l.Tuples(); slices.Contains(got, one(8, 160, 2)) {
			t.Errorf("P14.1: %s: it is there at its time: %v", c.what, got)
		}
	}
}

// TestTmmbrOfAnother: one Owner's tuple leaves the others', and their times, as they were.
func TestTmmbrOfAnother(t *testing.T) {
	l := limit.New(100)
	l.Tmmbr(one(5, 400, 7), 0)
	l.Tmmbr(one(6, 320, 8), 10)
	l.Tmmbr(one(4, 240, 9), 20)
	l.Tmmbr(one(6, 160, 1), 30)
	is(t, "three of them", l, 20, 4, 5, 6)
	for _, c := range []struct {
		now    int64
		gone   int
		rate   int64
		owners []uint32
	}{
		{hold - 1, 0, 20, []uint32{4, 5, 6}}, {hold, 1, 20, []uint32{4, 6}}, {hold + 10, 0, 20, []uint32{4, 6}}, {hold + 20, 1, 20, []uint32{6}}, {hold + 29, 0, 20, []uint32{6}}, {hold + 30, 1, 100, nil},
	} {
		if n := l.Tick(c.now); n != c.gone {
			t.Errorf("P14.1: Tick(%d): %d, want %d", c.now, n, c.gone)
		}
		is(t, "of three of them", l, c.rate, c.owners...)
	}
}

// full answers a limit with as many tuples as may be there: of Owners 10, 20 and so on, each told one microsecond later.
func full() *limit.Limit {
	l := limit.New(1000)
	for i := range room {
		l.Tmmbr(one(uint32(10*i+10), uint64(800+8*i), i), int64(i))
	}
	return l
}

func TestMaxTuples(t *testing.T) {
	owners := []uint32{10, 20, 30, 40, 50, 60}
	for _, other := range []uint32{0, 9, 11, 35, 61, lastOwner} {
		l := full()
		is(t, "as many as may be", l, 100, owners...)
		before, set := l.Tuples(), l.Set()
		for _, now := range times() {
			if l.Tmmbr(one(other, 8, 500), now) {
				t.Errorf("P14.1: one more, of %d at %d: true", other, now)
			}
		}
		if !slices.Equal(l.Tuples(), before) || !slices.Equal(l.Set(), set) || l.Rate() != 100 {
			t.Errorf("R3: one more, of %d, is refused and changes: %v, was %v", other, l.Tuples(), before)
		}
		if n := l.Tick(hold - 1); n != 0 {
			t.Errorf("R3: one more is refused and changes a time: Tick: %d", n)
		}
		if n := l.Tick(hold); n != 1 {
			t.Errorf("P14.1: Tick of the first one: %d", n)
		}
		is(t, "one is gone, and what was refused does not come for it", l, 101, owners[1:]...)
		if !l.Tmmbr(one(other, 80, 1), hold) {
			t.Errorf("P14.1: one more when one is gone, of %d: false", other)
		}
		all := append(slices.Clone(owners[1:]), other)
		slices.Sort(all)
		is(t, "one more when one is gone", l, 10, all...)
		if l.Tmmbr(one(10, 8, 1), hold) {
			t.Error("P14.1: the one that is gone, when another one has its room: true")
		}
		is(t, "the one that is gone is refused", l, 10, all...)
	}
}

// TestMaxTuplesOfOneThere: of one that is there a tuple is taken, however many are there.
func TestMaxTuplesOfOneThere(t *testing.T) {
	for i := range room {
		l := full()
		want := l.Tuples()
		want[i].Rate, want[i].Over = 72, 77
		if !l.Tmmbr(want[i], 500) {
			t.Errorf("P14.1: of %d, that is there: false", want[i].Owner)
		}
		if got := l.Tuples(); !slices.Equal(got, want) || l.Rate() != 9 {
			t.Errorf("P14.1: of one that is there: %v, want %v", got, want)
		}
		if n := l.Tick(hold + 499); n != room-1 {
			t.Errorf("P14.1: of one that is there: Tick of the others: %d", n)
		}
		is(t, "of one that is there", l, 9, want[i].Owner)
		if n := l.Tick(hold + 500); n != 1 {
			t.Errorf("P14.1: of one that is there: Tick: %d", n)
		}
	}
}

// TestFullThoughItIsTime: it is a Tick that makes room; that their time is past does not.
func TestFullThoughItIsTime(t *testing.T) {
	l := full()
	if l.Tmmbr(one(5, 80, 1), 1<<50) {
		t.Error("P14.1: one more, when their time is past: true")
	}
	is(t, "when their time is past", l, 100, 10, 20, 30, 40, 50, 60)
	if n := l.Tick(1 << 50); n != room {
		t.Errorf("P14.1: Tick of all: %d", n)
	}
	for i := range uint32(room + 1) {
		if ok := l.Tmmbr(one(i, 80, 1), 1<<50); ok != (i < room) {
			t.Errorf("P14.1: when all are gone, tuple %d: %v", i, ok)
		}
	}
}

func TestRemb(t *testing.T) {
	for _, c := range []struct {
		cap  int64
		bits []uint64
		want int64
	}{
		{1000, []uint64{0}, 0}, {1000, []uint64{1}, 0}, {1000, []uint64{7}, 0}, {1000, []uint64{8}, 1}, {1000, []uint64{15}, 1}, {1000, []uint64{16}, 2}, {1000, []uint64{80}, 10},
		{1000, []uint64{7999}, 999}, {1000, []uint64{8000}, 1000}, {1000, []uint64{8008}, 1000}, {1000, []uint64{highest}, 1000}, // at the cap, above it
		{most, []uint64{8*most - 1}, most - 1}, {most, []uint64{8 * most}, most}, {top, []uint64{8*most + 8}, most}, {top, []uint64{highest}, most}, {top, []uint64{most}, most / 8}, {top, []uint64{1 << 42}, 1 << 39}, // its bits are not held at 2^40
		{1000, []uint64{80, 160}, 20}, {1000, []uint64{160, 80}, 10}, {1000, []uint64{80, 80}, 10}, {1000, []uint64{0, 80}, 10}, {1000, []uint64{80, 0}, 0}, {1000, []uint64{8, highest}, 1000}, {1000, []uint64{highest, 8}, 1}, // the last one
		{0, []uint64{0}, 0}, {0, []uint64{7}, 0}, {0, []uint64{8}, 1}, {-5, []uint64{80}, 1}, {bottom, []uint64{highest}, 1},
	} {
		l := limit.New(c.cap)
		for _, bits := range c.bits {
			l.Remb(bits)
		}
		is(t, "REMB", l, c.want)
		if s := l.Set(); len(s) != 0 {
			t.Errorf("P14.1: a REMB is a tuple: %v", s)
		}
		if n := l.Tick(top); n != 0 {
			t.Errorf("P14.1: a REMB is counted by Tick: %d", n)
		}
		is(t, "REMB behind Tick", l, c.want)
	}
}

// TestRembWithTuples: they are told apart, neither changes the other.
func TestRembWithTuples(t *testing.T) {
	l := limit.New(1000)
	l.Tmmbr(one(2, 400, 5), 0)
	is(t, "a tuple", l, 50, 2)
	l.Remb(408)
	is(t, "a REMB above it", l, 50, 2)
	l.Remb(392)
	is(t, "a REMB below it", l, 49, 2)
	l.Tmmbr(one(2, 384, 5), 0)
	is(t, "a tuple below the REMB", l, 48, 2)
	l.Remb(0)
	is(t, "a REMB of nothing", l, 0, 2)
	l.Remb(highest)
	is(t, "a REMB of all", l, 48, 2)
	l.Remb(800)
	l.Tick(hold)
	is(t, "the REMB stays behind the tuple", l, 100)
	for i := range uint32(room) {
		l.Remb(80)
		l.Tmmbr(one(i, 800, 5), 0)
	}
	is(t, "the REMB takes no room", l, 10, 0, 1, 2, 3, 4, 5)
}

func TestTick(t *testing.T) {
	for _, c := range []struct {
		what  string
		told  []int64 // the times of Owners 0, 1 and so on
		ticks []int64
		want  []int
	}{
		{"of none", nil, []int64{0, hold, top, bottom}, []int{0, 0, 0, 0}},
		{"just before, at it, behind it", []int64{5}, []int64{hold + 4, hold + 5, hold + 6}, []int{0, 1, 0}},
		{"behind it at once", []int64{5}, []int64{hold + 6}, []int{1}},
		{"several at one time", []int64{5, 5, 5}, []int64{hold + 4, hold + 5, hold + 5}, []int{0, 3, 0}},
		{"several at one time, others not", []int64{7, 5, 6, 5, 7, 5}, []int64{hold + 5, hold + 5, hold + 6, hold + 7}, []int{3, 0, 1, 2}},
		{"as many as may be", []int64{0, 0, 0, 0, 0, 0}, []int64{hold - 1, hold, top}, []int{0, 6, 0}},
		{"several behind their times", []int64{1, 2, 3, 4, 5, 6}, []int64{hold + 3, hold + 100}, []int{3, 3}},
		{"in the other order", []int64{6, 5, 4, 3, 2, 1}, []int64{hold + 3, hold + 100}, []int{3, 3}},
		{"at an earlier time than the last one", []int64{5, 10}, []int64{hold + 7, 0, bottom, hold + 9, hold + 7, hold + 10}, []int{1, 0, 0, 0, 0, 1}},
		{"at times below 0", []int64{0, 5}, []int64{-1, -hold, bottom}, []int{0, 0, 0}},
		{"of some told below 0", []int64{-2 * hold, -hold, -1, 0}, []int64{-hold - 1, -hold, -1, 0, hold - 2, hold - 1, hold}, []int{0, 1, 0, 1, 0, 1, 1}},
		{"of some told below 0, behind their times", []int64{-2 * hold, -hold, -5 * hold, 1}, []int64{-hold / 2, 1}, []int{2, 1}},
		{"at the first times", []int64{bottom, bottom + 1, -1}, []int64{bottom, bottom + hold - 1, bottom + hold, bottom + hold + 1}, []int{0, 0, 1, 1}},
		{"at the end of time", []int64{top, 0, top - hold}, []int64{top - 1, top, top}, []int{1, 2, 0}},
	} {
		p := pair(t, 1000)
		for i, now := range c.told {
			p.do(t, say(uint32(i), uint64(80+8*i), i, now))
		}
		p.do(t, estimate(7000))
		for i, now := range c.ticks {
			if n := p.l.Tick(now); n != c.want[i] || n != p.m.tick(now) {
				t.Errorf("P14.1: %s: Tick(%d): %d, want %d", c.what, now, n, c.want[i])
			}
			p.hold(t)
		}
	}
}

// TestTickBetween tells tuples at times that are earlier than those of Ticks that were.
func TestTickBetween(t *testing.T) {
	l := limit.New(1000)
	l.Tick(1 << 40)
	l.Tmmbr(one(1, 80, 0), 5)
	is(t, "told at an earlier time than the last Tick's", l, 10, 1)
	if n := l.Tick(hold + 4); n != 0 {
		t.Errorf("P14.1: an earlier Tick, ahead of its time: %d", n)
	}
	if n := l.Tick(hold + 5); n != 1 {
		t.Errorf("P14.1: an earlier Tick, at its time: %d", n)
	}
	is(t, "gone at an earlier Tick", l, 1000)
}

func TestRate(t *testing.T) {
	for _, c := range []struct {
		what string
		cap  int64
		l    list
		remb []uint64
		want int64
	}{
		{"the cap alone", 700, nil, nil, 700},
		{"the cap is the least", 700, list{one(1, 5608, 4)}, []uint64{5608}, 700},
		{"the REMB is the least", 700, list{one(1, 5592, 4)}, []uint64{5584}, 698},
		{"a tuple is the least", 700, list{one(1, 5584, 4)}, []uint64{5592}, 698},
		{"all are the same", 700, list{one(1, 5600, 4)}, []uint64{5600}, 700},
		{"the cap and a tuple are the same", 700, list{one(1, 5607, 4)}, []uint64{6000}, 700},
		{"a tuple and the REMB are the same", 700, list{one(1, 804, 4)}, []uint64{800}, 100},
		{"two tuples are the same", 700, list{one(1, 800, 4), one(2, 800, 4)}, nil, 100},
		{"two tuples of one Rate, of other Overs", 700, list{one(1, 800, 511), one(2, 800, 0)}, nil, 100},
		{"the first of two", 700, list{one(1, 792, 4), one(2, 800, 4)}, nil, 99},
		{"the second of two", 700, list{one(1, 800, 4), one(2, 792, 4)}, nil, 99},
		{"the one between", 700, list{one(1, 808, 4), one(2, 792, 4), one(3, 800, 4)}, nil, 99},
		{"the Over takes nothing", 700, list{one(1, 800, 511), one(2, 808, 40)}, nil, 100},
		{"a tuple of nothing", 700, list{one(1, 0, 0), one(2, 800, 4)}, []uint64{80}, 0},
		{"a tuple of less than a byte", 700, list{one(1, 7, 4)}, nil, 0},
		{"a tuple of a byte", 700, list{one(1, 8, 4)}, nil, 1},
		{"rounded down", 700, list{one(1, 815, 4)}, nil, 101},
		{"a great cap alone", top, nil, nil, most},
		{"a great REMB", top, nil, []uint64{highest}, most},
		{"a tuple at 2^40 bits", top, list{one(1, most, 4)}, nil, most / 8},
		{"a tuple just below", top, list{one(1, most-1, 4)}, nil, most/8 - 1},
		{"a tuple above is held there", top, list{one(1, most+8, 4)}, nil, most / 8},
		{"a tuple of all", top, list{one(1, highest, 4)}, []uint64{highest}, most / 8},
		{"the least cap", 0, list{one(1, highest, 4)}, []uint64{highest}, 1},
	} {
		l := limit.New(c.cap)
		for _, a := range c.l {
			l.Tmmbr(a, 0)
		}
		for _, bits := range c.remb {
			l.Remb(bits)
		}
		if got := l.Rate(); got != c.want {
			t.Errorf("P14.1: %s: Rate: %d, want %d", c.what, got, c.want)
		}
	}
}

// TestEdges has each cap with each REMB and each tuple's Rate.
func TestEdges(t *testing.T) {
	for _, cap := range caps() {
		for _, a := range rates() {
			p := pair(t, cap, estimate(a))
			for i, b := range rates() {
				p.do(t, say(3, b, overs()[i%len(overs())], 0))
				p.do(t, say(2, a, 40, 1))
			}
		}
	}
}

// shuffles answers all orders of 0 to n less 1.
func shuffles(n int) [][]int {
	if n == 0 {
		return [][]int{nil}
	}
	var all [][]int
	for _, o := range shuffles(n - 1) {
		for i := range n {
			all = append(all, slices.Insert(slices.Clone(o), i, n-1))
		}
	}
	return all
}

// TestTuplesByOwner tells the same tuples in each order.
func TestTuplesByOwner(t *testing.T) {
	want := list{one(0, 900, 3), one(1, 800, 2), one(1<<31-1, 700, 9), one(1<<31, 1600, 5), one(lastOwner-1, 1600, 5), one(lastOwner, 640, 0)}
	set := bound.Set(want)
	for _, o := range shuffles(len(want)) {
		l := limit.New(1000)
		for _, i := range o {
			l.Tmmbr(want[i], int64(i))
		}
		if got := l.Tuples(); !slices.Equal(got, want) {
			t.Errorf("P14.1: told in the order %v: Tuples: %v", o, got)
		}
		if got := l.Set(); !slices.Equal(got, set) || l.Rate() != 80 {
			t.Errorf("P14.1: told in the order %v: Set: %v, want %v", o, got, set)
		}
		l.Tick(hold + 2) // the first three are gone
		if got := l.Tuples(); !slices.Equal(got, want[3:]) {
			t.Errorf("P14.1: told in the order %v: Tuples behind Tick: %v", o, got)
		}
	}
}

// TestSet: one that did not bound does so when the one that did is gone.
func TestSet(t *testing.T) {
	l := limit.New(most)
	a, b, c := one(1, 1000, 10), one(2, 1500, 40), one(3, 9000, 20)
	for i, x := range (list{c, a, b}) {
		l.Tmmbr(x, int64(i))
	}
	l.Remb(8) // it bounds no tuple
	for _, step := range []struct {
		now  int64
		want list
	}{
		{0, list{a, b}}, {hold, list{a, b}}, {hold + 1, list{b}}, {hold + 2, nil},
	} {
		l.Tick(step.now)
		if got := l.Set(); !slices.Equal(got, step.want) {
			t.Errorf("P14.1: Set at %d: %v, want %v", step.now, got, step.want)
		}
	}
	for _, x := range (list{c, b}) {
		l.Tmmbr(x, 0)
	}
	l.Tmmbr(one(2, 9000, 5), 0)
	if got := l.Set(); !slices.Equal(got, list{c}) {
		t.Errorf("P14.1: Set when one's tuple is another: %v", got)
	}
}

// fill writes over all of a list, its spare room too.
func fill(l list) {
	l = l[:cap(l)]
	for i := range l {
		l[i] = one(7777, 1, 500)
	}
}

// TestAnswersAreNew writes over what Tuples and Set answered: the limit stays, and so does what was answered ahead and is answered behind.
func TestAnswersAreNew(t *testing.T) {
	for n := range room + 1 {
		p := pair(t, 1<<30)
		for i := range n {
			p.do(t, say(uint32(90-10*i), uint64(1<<20+i*i), i, int64(i))) // all of them bound
		}
		answers := []func() list{p.l.Tuples, p.l.Set}
		for _, a := range answers {
			for _, b := range answers {
				x, y := a(), b()
				want := slices.Clone(y[:cap(y)])
				fill(x)
				if !slices.Equal(y[:cap(y)], want) {
					t.Fatalf("R2: two answers of %d tuples share memory: %v, was %v", n, y[:cap(y)], want)
				}
				p.hold(t)
				again := a()
				fill(again)
				if !slices.Equal(y[:cap(y)], want) {
					t.Fatalf("R2: what is answered behind it shares its memory: %v, was %v", y[:cap(y)], want)
				}
				fill(y)
				p.hold(t)
			}
		}
		x, s := p.l.Tuples(), p.l.Set()
		tuples, set := slices.Clone(x), slices.Clone(s)
		p.do(t, say(50, 3, 3, 9)) // what is worked on changes, what was answered does not
		p.do(t, say(3, 3, 3, 9))
		p.do(t, at(hold+3))
		if !slices.Equal(x, tuples) || !slices.Equal(s, set) {
			t.Fatalf("R2: what was answered changes with the limit: %v, %v, was %v, %v", x, s, tuples, set)
		}
	}
}

// TestFillBetween writes over each answer in rows of calls of all kinds.
func TestFillBetween(t *testing.T) {
	r := rand.New(rand.NewSource(14))
	for range 300 {
		p := pair(t, 1000)
		now := int64(0)
		for range 40 {
			now += r.Int63n(hold / 4)
			p.do(t, draw(r, now))
			fill(p.l.Tuples())
			fill(p.l.Set())
			p.hold(t)
		}
	}
}

// TestOneBesideAnother: what is done to one limit another one does not tell.
func TestOneBesideAnother(t *testing.T) {
	a, b := pair(t, 1000, say(1, 80, 2, 0), estimate(72)), pair(t, 2000, say(2, 160, 3, 0))
	for i := range uint32(room + 2) {
		a.do(t, say(i, 64, 2, 5))
		b.hold(t)
	}
	a.do(t, estimate(0))
	b.hold(t)
	a.do(t, at(top))
	b.hold(t)
	b.do(t, say(9, 8, 0, 0))
	a.hold(t)
	is(t, "one of two", a.l, 0)
	is(t, "the other one", b.l, 1, 2, 9)
}

// TestRowsOfFew makes all rows of five calls out of a few.
func TestRowsOfFew(t *testing.T) {
	few := []call{say(1, 80, 2, 0), say(1, 160, 1, 5), say(0, 80, 2, 5), say(2, 7, 9, 0), estimate(88), estimate(0), at(hold - 1), at(hold), at(hold + 5), at(-1)}
	var grow func(row []call, n int)
	grow = func(row []call, n int) {
		if n == 0 {
			pair(t, 11, row...)
			return
		}
		for _, c := range few {
			grow(append(slices.Clone(row), c), n-1)
		}
	}
	grow(nil, 5)
}

// draw answers a call about a time, most often a tuple, of few Owners.
func draw(r *rand.Rand, now int64) call {
	switch r.Intn(8) {
	case 0:
		return estimate(uint64(r.Intn(12000)))
	case 1:
		return estimate(rates()[r.Intn(len(rates()))])
	case 2:
		return at(now)
	case 3:
		return at(now - r.Int63n(2*hold))
	case 4:
		return say(uint32(r.Intn(9)), rates()[r.Intn(len(rates()))], overs()[r.Intn(len(overs()))], now)
	}
	return say(uint32(r.Intn(9)), uint64(r.Intn(12000)), r.Intn(60), now-r.Int63n(hold/2))
}

// TestRowsOfCalls makes rows of calls of all kinds, with times that go on, and with times of any size.
func TestRowsOfCalls(t *testing.T) {
	r := rand.New(rand.NewSource(15))
	for n := range 1500 {
		p := pair(t, r.Int63n(1500))
		now := r.Int63n(1000)
		if n%2 == 0 {
			now = -r.Int63n(12 * hold) // it goes on from below 0
		}
		for range 60 {
			now += r.Int63n(hold / 5)
			c := draw(r, now)
			if n%3 == 0 && r.Intn(3) == 0 {
				c.now = times()[r.Intn(len(times()))]
			}
			if n%5 == 0 {
				c.t.Owner = r.Uint32() >> r.Intn(32)
			}
			p.do(t, c)
		}
	}
}

// TestNoneTakesMore (W1): the Rate is none that anyone says can't be taken, and is what one of them says.
func TestNoneTakesMore(t *testing.T) {
	r := rand.New(rand.NewSource(16))
	for range 400 {
		cap := 1 + r.Int63n(1500)
		l := limit.New(cap)
		least := uint64(highest)
		now := int64(0)
		for range 50 {
			now += r.Int63n(hold / 5)
			switch c := draw(r, now); c.kind {
			case tmmbr:
				l.Tmmbr(c.t, c.now)
			case remb:
				l.Remb(c.t.Rate)
				least = c.t.Rate
			case tick:
				l.Tick(c.now)
			}
			lets := min(bound.Holds(l.Tuples(), 0), least, uint64(8*cap))
			if got := uint64(l.Rate()); 8*got > lets || 8*got+8 <= lets {
				t.Fatalf("W1: Rate %d, where %d bits may go", got, lets)
			}
			if bound.Holds(l.Set(), 0) != bound.Holds(l.Tuples(), 0) {
				t.Fatalf("W1: Set %v lets other than Tuples %v", l.Set(), l.Tuples())
			}
		}
	}
}

// gone are bytes that went out at a time.
type gone struct{ at, bytes int64 }

// keepsTo tells whether from each of what went out on, up to the last one, no more did than a burst, and a rate times the time between.
func keepsTo(l []gone, burst, rate int64) bool {
	sum := int64(0)
	for i := len(l) - 1; i >= 0; i-- {
		sum += l[i].bytes
		if (sum-burst)*1000000 > rate*(l[len(l)-1].at-l[i].at) {
			return false
		}
	}
	return true
}

// TestPaced (W1) paces datagrams by the Rate: in any time in which it stays no more goes than the burst, and the Rate times it.
func TestPaced(t *testing.T) {
	const burst = 6000
	r := rand.New(rand.NewSource(17))
	for range 40 {
		l := limit.New(100000)
		q := pace.New(l.Rate(), burst)
		now, was := int64(0), int64(0)
		var went []gone
		for range 400 {
			switch c := draw(r, now); c.kind {
			case tmmbr:
				c.t.Rate *= 100
				l.Tmmbr(c.t, now)
			case remb:
				l.Remb(100 * c.t.Rate)
			}
			l.Tick(now)
			if q.Rate(l.Rate()); l.Rate() != was {
				was, went = l.Rate(), nil
			}
			q.Put(make([]byte, r.Intn(1200)))
			for _, b := range q.Go() {
				went = append(went, gone{now, int64(len(b)) + api.Overhead})
				if !keepsTo(went, burst, was) {
					t.Fatalf("W1: at %d bytes a second: %v", was, went)
				}
			}
			us := r.Int63n(40000)
			q.Tick(us)
			now += us
		}
	}
}

// TestAskedTwice: what is asked changes nothing.
func TestAskedTwice(t *testing.T) {
	l := full()
	l.Remb(808)
	tuples, set := l.Tuples(), l.Set()
	for range 50 {
		if l.Rate() != 100 || !slices.Equal(l.Tuples(), tuples) || !slices.Equal(l.Set(), set) || l.Tick(5) != 0 {
			t.Fatal("R4: the same call answers otherwise")
		}
	}
	if n := l.Tick(hold + room - 1); n != room {
		t.Errorf("P14.1: what is asked changes a time: Tick: %d", n)
	}
}
