package bound_test

import (
	"math"
	"math/big"
	"math/rand"
	"slices"
	"testing"

	"limelight/api"
	"limelight/bound"
)

const (
	maxRate    = 1 << 40
	maxOver    = 511
	maxPackets = 1 << 32
	top        = math.MaxUint64
	lastOwner  = math.MaxUint32
)

type list = []api.Tuple

func one(owner uint32, rate uint64, over int) api.Tuple {
	return api.Tuple{Owner: owner, Rate: rate, Over: over}
}

// held answers of a tuple what counts.
func held(x api.Tuple) api.Tuple {
	if x.Rate > maxRate {
		x.Rate = maxRate
	}
	if x.Over < 0 {
		x.Over = 0
	}
	if x.Over > maxOver {
		x.Over = maxOver
	}
	return x
}

func heldAll(l list) list {
	var h list
	for _, x := range l {
		h = append(h, held(x))
	}
	return h
}

// line answers what the line of a held tuple tells at x, below 0 too.
func line(a api.Tuple, x *big.Rat) *big.Rat {
	y := new(big.Rat).Mul(big.NewRat(8*int64(a.Over), 1), x)
	return y.Sub(big.NewRat(int64(a.Rate), 1), y)
}

// meet answers at which x the lines of two held tuples of different Overs meet.
func meet(a, b api.Tuple) *big.Rat {
	return big.NewRat(int64(b.Rate)-int64(a.Rate), 8*int64(b.Over-a.Over))
}

// behind tells of two that are as good whether b goes ahead of a.
func behind(a, b api.Tuple) bool {
	return b.Over > a.Over || b.Over == a.Over && b.Owner < a.Owner
}

// told is Set by the chapter's words, in numbers of any size.
func told(l list) list {
	h := heldAll(l)
	if len(h) == 0 {
		return nil
	}
	last := h[0]
	for _, a := range h {
		if a.Rate < last.Rate || a.Rate == last.Rate && behind(last, a) {
			last = a
		}
	}
	s := list{last}
	for {
		var best api.Tuple
		var least *big.Rat
		for _, a := range h {
			if a.Over <= last.Over {
				continue
			}
			x := meet(last, a)
			if least == nil || x.Cmp(least) < 0 || x.Cmp(least) == 0 && behind(best, a) {
				best, least = a, x
			}
		}
		if least == nil || line(last, least).Sign() <= 0 {
			return s
		}
		s = append(s, best)
		last = best
	}
}

func toldRate(l list) (uint64, bool) {
	if len(l) == 0 {
		return 0, false
	}
	least := uint64(maxRate)
	for _, a := range l {
		least = min(least, a.Rate)
	}
	return least, true
}

func toldHolds(l list, packets uint64) uint64 {
	if len(l) == 0 {
		return top
	}
	x := new(big.Int).SetUint64(packets)
	if packets > maxPackets {
		x.SetUint64(maxPackets)
	}
	least := big.NewInt(maxRate)
	for _, a := range heldAll(l) {
		n := new(big.Int).Mul(big.NewInt(8*int64(a.Over)), x)
		n.Sub(big.NewInt(int64(a.Rate)), n)
		if n.Sign() < 0 {
			n.SetInt64(0)
		}
		if n.Cmp(least) < 0 {
			least = n
		}
	}
	return least.Uint64()
}

// owners are those of a list, and some that may have nothing in it.
func owners(l list) []uint32 {
	all := []uint32{0, 1, 77, 1<<31 - 1, 1 << 31, lastOwner - 1, lastOwner}
	for _, a := range l {
		all = append(all, a.Owner)
	}
	return all
}

// counts are the edges of packets.
func counts() []uint64 {
	return []uint64{0, 1, 2, 3, 5, 1<<31 - 1, 1 << 31, maxPackets - 1, maxPackets, maxPackets + 1, 1 << 33, 1<<53 + 1, 1<<61 - 1, 1 << 61, 1 << 63, top - 1, top}
}

// around answers the whole numbers of packets about x.
func around(x *big.Rat) []uint64 {
	n := new(big.Int).Quo(x.Num(), x.Denom()).Uint64()
	return []uint64{max(n, 1) - 1, n, n + 1, n + 2}
}

// turns are the numbers of packets about which something may change among the tuples of a set: where two lines meet, and where one lets nothing any more.
func turns(s list) []uint64 {
	all := counts()
	for i, a := range s {
		if a.Over > 0 {
			all = append(all, around(big.NewRat(int64(a.Rate), 8*int64(a.Over)))...)
		}
		if i > 0 {
			all = append(all, around(meet(s[i-1], a))...)
		}
	}
	return all
}

// hold holds all calls of a list against the chapter's words.
func hold(t *testing.T, l list) {
	t.Helper()
	want := told(l)
	s := bound.Set(l)
	if !slices.Equal(s, want) {
		t.Errorf("P13.1: Set(%v): %v, want %v", l, s, want)
	}
	n, there := toldRate(l)
	if got, ok := bound.Rate(l); got != n || ok != there {
		t.Errorf("P13.1: Rate(%v): %d, %v, want %d, %v", l, got, ok, n, there)
	}
	for _, owner := range owners(l) {
		theirs := slices.ContainsFunc(want, func(a api.Tuple) bool { return a.Owner == owner })
		if got := bound.Owns(l, owner); got != theirs {
			t.Errorf("P13.1: Owns(%v, %d): %v", l, owner, got)
		}
	}
	holdPackets(t, l, s, turns(want))
}

// holdPackets holds Holds of a list and of its set, with each of so many packets, against the chapter's words.
func holdPackets(t *testing.T, l, s list, packets []uint64) {
	t.Helper()
	for _, x := range packets {
		want := toldHolds(l, x)
		if got := bound.Holds(l, x); got != want {
			t.Errorf("P13.1: Holds(%v, %d): %d, want %d", l, x, got, want)
		}
		if got := bound.Holds(s, x); got != want {
			t.Errorf("P13.2: Holds(%v, %d), the Set of %v: %d, want %d", s, x, l, got, want)
		}
	}
}

// orders answers all orders of a list.
func orders(l list) []list {
	if len(l) == 0 {
		return []list{nil}
	}
	var all []list
	for i := range l {
		rest := slices.Delete(slices.Clone(l), i, i+1)
		for _, o := range orders(rest) {
			all = append(all, append(o, l[i]))
		}
	}
	return all
}

// rates are those about which something may change.
func rates() []uint64 {
	return []uint64{0, 1, 2, 7, 8, 9, 1000, 1 << 32, maxRate - 1, maxRate, maxRate + 1, 1<<63 - 1, 1 << 63, top - 1, top}
}

// overs are those about which something may change.
func overs() []int {
	return []int{math.MinInt, math.MinInt + 1, -512, -2, -1, 0, 1, 2, 3, 40, 255, 256, 510, 511, 512, 513, 1 << 32, math.MaxInt - 1, math.MaxInt}
}

func TestRuns(t *testing.T) {
	if s := bound.Set(nil); len(s) != 0 {
		t.Errorf("P13.1: Set of nothing: %v", s) // the chapter's run
	}
	if s := bound.Set(list{one(1, 1000, 10)}); !slices.Equal(s, list{one(1, 1000, 10)}) {
		t.Errorf("P13.1: Set of one: %v", s) // its examples
	}
	if n := bound.Holds(nil, 5); n != top {
		t.Errorf("P13.1: Holds(nothing, 5): %d", n)
	}
}

// TestNothing asks of nil, and of empty lists that have room.
func TestNothing(t *testing.T) {
	for _, l := range []list{nil, {}, make(list, 0, 3), list{one(1, 2, 3)}[:0]} {
		if s := bound.Set(l); len(s) != 0 {
			t.Errorf("P13.1: Set of nothing: %v", s)
		}
		if n, ok := bound.Rate(l); n != 0 || ok {
			t.Errorf("P13.1: Rate of nothing: %d, %v", n, ok)
		}
		for _, x := range counts() {
			if n := bound.Holds(l, x); n != top {
				t.Errorf("P13.1: Holds(nothing, %d): %d", x, n)
			}
		}
		for _, owner := range owners(nil) {
			if bound.Owns(l, owner) {
				t.Errorf("P13.1: Owns(nothing, %d): true", owner)
			}
		}
	}
}

func TestSetOfOne(t *testing.T) {
	for _, owner := range owners(nil) {
		for _, rate := range rates() {
			for _, over := range overs() {
				a := one(owner, rate, over)
				if s := bound.Set(list{a}); !slices.Equal(s, list{held(a)}) {
					t.Errorf("P13.1: Set of %v: %v", a, s)
				}
				hold(t, list{a})
			}
		}
	}
}

// TestHeld tells of each bound what is told of one next to it.
func TestHeld(t *testing.T) {
	for _, c := range []struct {
		rate, wantRate uint64
		over, wantOver int
	}{
		{0, 0, 0, 0}, {1, 1, 1, 1}, {maxRate - 1, maxRate - 1, 510, 510}, {maxRate, maxRate, 511, 511}, {maxRate + 1, maxRate, 512, 511}, {1 << 41, maxRate, 1 << 9, 511}, {1 << 63, maxRate, 1 << 62, 511},
		{top, maxRate, math.MaxInt, 511}, {5, 5, -1, 0}, {5, 5, -511, 0}, {5, 5, math.MinInt, 0}, {top, maxRate, math.MinInt, 0}, {0, 0, math.MaxInt, 511},
	} {
		l := list{one(4, c.rate, c.over)}
		if s := bound.Set(l); !slices.Equal(s, list{one(4, c.wantRate, c.wantOver)}) {
			t.Errorf("P13.1: Set(%v): %v", l, s)
		}
		if n, ok := bound.Rate(l); n != c.wantRate || !ok {
			t.Errorf("P13.1: Rate(%v): %d, %v", l, n, ok)
		}
		if n := bound.Holds(l, 0); n != c.wantRate {
			t.Errorf("P13.1: Holds(%v, 0): %d", l, n)
		}
	}
}

// TestSet has cases whose answer was found by hand; each is asked in all orders.
func TestSet(t *testing.T) {
	for _, c := range []struct {
		what    string
		l, want list
	}{
		{"what meets later does not bound", list{one(1, 1000, 10), one(2, 1500, 40), one(3, 9000, 20)}, list{one(1, 1000, 10), one(2, 1500, 40)}},
		{"three, one behind the other", list{one(1, 800, 1), one(2, 880, 11), one(3, 1000, 21)}, list{one(1, 800, 1), one(2, 880, 11), one(3, 1000, 21)}},
		{"the one between never bounds", list{one(3, 1000, 100), one(2, 1100, 200), one(1, 1200, 300)}, list{one(3, 1000, 100), one(1, 1200, 300)}},
		{"the least Rate begins, however great its Over", list{one(1, 10, 511), one(2, 11, 0), one(3, 12, 1)}, list{one(1, 10, 511)}},
		{"of the same Rate the greatest Over begins", list{one(1, 800, 10), one(2, 800, 20), one(3, 800, 15)}, list{one(2, 800, 20)}},
		{"of the same Rate and Over the least Owner begins", list{one(3, 800, 10), one(1, 800, 10), one(2, 800, 10)}, list{one(1, 800, 10)}},
		{"the Over goes ahead of the Owner", list{one(0, 800, 10), one(9, 800, 11), one(lastOwner, 800, 11)}, list{one(9, 800, 11)}},
		{"of the same Over the least Rate bounds", list{one(1, 900, 10), one(2, 800, 10), one(3, 801, 10)}, list{one(2, 800, 10)}},
		{"of the same Over as the last one none is next", list{one(1, 800, 10), one(2, 801, 10), one(3, 900, 20), one(4, 901, 20)}, list{one(1, 800, 10), one(3, 900, 20)}},
		{"of the same Owner each counts", list{one(5, 800, 1), one(5, 880, 11), one(5, 1000, 21)}, list{one(5, 800, 1), one(5, 880, 11), one(5, 1000, 21)}},
		{"the same in all is told once", list{one(5, 800, 1), one(5, 800, 1), one(5, 800, 1)}, list{one(5, 800, 1)}},
		{"so is the next one", list{one(1, 800, 1), one(5, 880, 11), one(5, 880, 11)}, list{one(1, 800, 1), one(5, 880, 11)}},
		{"of the same next ones the least Owner", list{one(1, 800, 1), one(5, 880, 11), one(4, 880, 11), one(6, 880, 11)}, list{one(1, 800, 1), one(4, 880, 11)}},
		{"the Owner of the last one is none of theirs", list{one(9, 800, 1), one(0, 880, 11), one(lastOwner, 880, 11)}, list{one(9, 800, 1), one(0, 880, 11)}},
		{"three that meet at one place: the greatest Over", list{one(1, 800, 1), one(2, 880, 11), one(3, 960, 21)}, list{one(1, 800, 1), one(3, 960, 21)}},
		{"the Owner does not go ahead of the Over there", list{one(4, 800, 1), one(0, 880, 11), one(3, 960, 21), one(2, 960, 21)}, list{one(4, 800, 1), one(2, 960, 21)}},
		{"at one place behind the first", list{one(1, 7000, 0), one(2, 7080, 10), one(3, 7400, 30), one(4, 7720, 50), one(5, 8040, 70)}, list{one(1, 7000, 0), one(2, 7080, 10), one(5, 8040, 70)}},
		{"they meet at 0", list{one(1, 800, 0), one(2, 800, 511)}, list{one(2, 800, 511)}},
		{"they never meet", list{one(1, 800, 7), one(2, 900, 7), one(3, 900, 6), one(4, 900, 0)}, list{one(1, 800, 7)}},
		{"the last one is just 0 there", list{one(1, 800, 10), one(2, 1600, 20)}, list{one(1, 800, 10)}},
		{"the last one is just above 0 there", list{one(1, 800, 10), one(2, 1599, 20)}, list{one(1, 800, 10), one(2, 1599, 20)}},
		{"the last one is below 0 there", list{one(1, 800, 10), one(2, 1601, 20)}, list{one(1, 800, 10)}},
		{"the second one is just 0 where it meets the third", list{one(1, 1000, 0), one(2, 1600, 2), one(3, 2400, 3)}, list{one(1, 1000, 0), one(2, 1600, 2)}},
		{"the second one is just above 0 where it meets the third", list{one(1, 1000, 0), one(2, 1600, 2), one(3, 2399, 3)}, list{one(1, 1000, 0), one(2, 1600, 2), one(3, 2399, 3)}},
		{"above 0 by less than one bit", list{one(1, 4, 3), one(2, 5, 4)}, list{one(1, 4, 3), one(2, 5, 4)}},
		{"they meet between two packets", list{one(1, 100, 0), one(2, 101, 1)}, list{one(1, 100, 0), one(2, 101, 1)}},
		{"they meet between the same two packets", list{one(1, 100, 0), one(2, 101, 1), one(3, 103, 2), one(4, 106, 3)}, list{one(1, 100, 0), one(2, 101, 1), one(3, 103, 2), one(4, 106, 3)}},
		{"a Rate of 0 lets nothing from the beginning", list{one(1, 0, 0), one(2, 0, 3), one(3, 100, 10)}, list{one(2, 0, 3)}},
		{"a Rate of 0 with an Over of 0", list{one(1, 0, 0), one(2, 1, 1)}, list{one(1, 0, 0)}},
		{"an Over of 0 is above 0 for ever", list{one(1, 1, 0), one(2, maxRate, 1)}, list{one(1, 1, 0), one(2, maxRate, 1)}},
		{"they meet beyond the packets that Holds takes", list{one(1, 1, 0), one(2, maxRate, 1), one(3, maxRate-1, 1)}, list{one(1, 1, 0), one(3, maxRate-1, 1)}},
		{"held Rates are the same", list{one(1, maxRate+1, 3), one(2, maxRate, 4), one(3, top, 2)}, list{one(2, maxRate, 4)}},
		{"held Overs are the same", list{one(2, 800, 600), one(1, 800, 511), one(3, 800, math.MaxInt)}, list{one(1, 800, 511)}},
		{"held Overs are the same at 0", list{one(2, 800, -5), one(1, 800, 0), one(3, 800, math.MinInt)}, list{one(1, 800, 0)}},
		{"what is held bounds held", list{one(1, 1<<39, -5), one(2, 1<<41, 512)}, list{one(1, 1<<39, 0), one(2, maxRate, 511)}},
		{"held ones next: the least Owner", list{one(1, 500, -1), one(3, 600, 511), one(2, 600, 512)}, list{one(1, 500, 0), one(2, 600, 511)}},
		{"not held they would not meet", list{one(1, maxRate, 3), one(2, maxRate+5, 9), one(3, 1<<50, 9)}, list{one(2, maxRate, 9)}},
	} {
		for _, o := range orders(c.l) {
			if s := bound.Set(o); !slices.Equal(s, c.want) {
				t.Errorf("P13.1: %s: Set(%v): %v, want %v", c.what, o, s, c.want)
			}
		}
		hold(t, c.l)
	}
}

// TestSetOfTwo holds each with each of the edges.
func TestSetOfTwo(t *testing.T) {
	var all list
	for _, rate := range rates() {
		for _, over := range []int{math.MinInt, -1, 0, 1, 2, 40, 510, 511, 512, math.MaxInt} {
			all = append(all, one(0, rate, over))
		}
	}
	for _, a := range all {
		for _, b := range all {
			b.Owner = lastOwner
			hold(t, list{a, b})
		}
	}
}

// TestSetOfThree holds all rows of three small ones, whose lines often meet at one place, and at 0.
func TestSetOfThree(t *testing.T) {
	var all list
	for _, rate := range []uint64{0, 1, 2, 3, 4, 6} {
		for over := range 4 {
			all = append(all, one(0, rate, over))
		}
	}
	for _, a := range all {
		for _, b := range all {
			for _, c := range all {
				a.Owner, b.Owner, c.Owner = 2, 1, 3
				l := list{a, b, c}
				if s, want := bound.Set(l), told(l); !slices.Equal(s, want) {
					t.Fatalf("P13.1: Set(%v): %v, want %v", l, s, want)
				}
				holdPackets(t, l, bound.Set(l), []uint64{0, 1})
			}
		}
	}
}

// TestMeetExactly has two next ones that meet the last one's line at one place, or at two that are as near as can be: whole numbers that are divided can't tell them apart.
func TestMeetExactly(t *testing.T) {
	const far = maxRate / 2
	for over := 2; over < maxOver; over++ {
		for _, d := range []int64{-1, 0, 1} {
			n := int64(far/(over+1)) - 1
			a := one(1, uint64(far+n*int64(over)), over)
			b := one(2, uint64(far+n*int64(over+1)+d), over+1)
			first := one(3, far, 0)
			l := list{a, first, b}
			want := list{first, b}
			if d > 0 {
				want = list{first, a, b}
			}
			if s := bound.Set(l); !slices.Equal(s, want) {
				t.Errorf("P13.1: Set(%v): %v, want %v", l, s, want)
			}
			hold(t, l)
		}
	}
	const n = 1000000007
	for _, c := range []struct{ nearer, further api.Tuple }{ // the products that are compared differ by 1
		{one(1, far+511*n+1, 511), one(2, far+510*n+1, 510)},
		{one(1, far+510*n-1, 510), one(2, far+511*n-1, 511)},
		{one(1, far+509*n+254, 509), one(2, far+511*n+255, 511)},
		{one(1, far+511*n+256, 511), one(2, far+509*n+255, 509)},
	} {
		for _, l := range orders(list{c.nearer, one(0, far, 0), c.further}) {
			if s := bound.Set(l); len(s) < 2 || s[1] != c.nearer {
				t.Errorf("P13.1: Set(%v): %v, want %v next", l, s, c.nearer)
			}
			hold(t, l)
		}
	}
}

// TestAboveExactly has lines that meet where the last one is 0, or next to it by a part of one bit, from small Rates to great ones.
func TestAboveExactly(t *testing.T) {
	for _, over := range []int64{1, 2, 3, 7, 100, 255, 256, 500, 509, 510} {
		for more := int64(1); over+more <= maxOver; more += 1 + more/7 {
			for _, from := range []int64{1, 1000, 1 << 30, maxRate * over / (over + more)} {
				for rate := max(from-600, 1); rate < from; rate += 1 + over/9 {
					exact := rate * more / over // the Rates' difference at which the last one is 0, rounded down
					for _, apart := range []int64{exact - 1, exact, exact + 1} {
						if apart < 1 {
							continue
						}
						l := list{one(2, uint64(rate), int(over)), one(1, uint64(rate+apart), int(over+more))}
						want := l
						if over*apart >= rate*more {
							want = l[:1]
						}
						if s := bound.Set(l); !slices.Equal(s, want) {
							t.Fatalf("P13.1: Set(%v): %v, want %v", l, s, want)
						}
					}
				}
			}
		}
	}
}

// TestSetOfChain has a line for each Over, each of which bounds, until the last one is 0 where the next one meets it.
func TestSetOfChain(t *testing.T) {
	r := rand.New(rand.NewSource(3))
	for _, scale := range []uint64{1, 8, 1 << 19} {
		for _, c := range []struct {
			base uint64
			many int
		}{
			{1, 2}, {2, 2}, {3, 3}, {992, 32}, {993, 33}, {994, 33}, {1000, 33}, {510 * 511, 511}, {510*511 + 1, 512}, {1 << 20, 512}, // one Over and the next one meet above 0 where their product is below the base
		} {
			var l list
			for over := range maxOver + 1 {
				l = append(l, one(uint32(over), scale*(c.base+uint64(over*over)), over))
			}
			want := slices.Clone(l[:c.many])
			if s := bound.Set(l); !slices.Equal(s, want) {
				t.Errorf("P13.1: the chain from %d, times %d: %d of Set, want %d", c.base, scale, len(s), c.many)
			}
			r.Shuffle(len(l), func(i, k int) { l[i], l[k] = l[k], l[i] })
			s := bound.Set(l)
			if !slices.Equal(s, want) {
				t.Errorf("P13.1: the chain from %d, times %d, in any order: %d of Set, want %d", c.base, scale, len(s), c.many)
			}
			holdPackets(t, l, s, turns(want[:min(c.many, 40)]))
			for i := range uint32(maxOver + 1) {
				if i%50 == 0 && bound.Owns(l, i) != (int(i) < c.many) {
					t.Errorf("P13.1: the chain from %d: Owns(%d)", c.base, i)
				}
			}
		}
	}
}

func TestRate(t *testing.T) {
	for _, c := range []struct {
		l    list
		want uint64
	}{
		{list{one(1, 0, 0)}, 0}, {list{one(1, 1, 511)}, 1}, {list{one(1, maxRate-1, 5)}, maxRate - 1}, {list{one(1, maxRate, 5)}, maxRate}, {list{one(1, maxRate+1, 5)}, maxRate}, {list{one(1, top, 5)}, maxRate},
		{list{one(1, 9, 0), one(2, 7, 511), one(3, 8, 2)}, 7}, {list{one(1, 9, 0), one(2, 7, 0), one(3, 7, 2)}, 7}, {list{one(1, top, 0), one(2, maxRate-1, 0)}, maxRate - 1}, {list{one(1, 1<<41, 0), one(2, top, 0)}, maxRate},
		{list{one(7, 5, 0), one(7, 3, 0), one(7, 0, 0)}, 0}, {list{one(7, 5, 1), one(7, 5, 1)}, 5}, {list{one(1, 100, 500), one(2, 101, 0)}, 100},
	} {
		for _, o := range orders(c.l) {
			if n, ok := bound.Rate(o); n != c.want || !ok {
				t.Errorf("P13.1: Rate(%v): %d, %v, want %d", o, n, ok, c.want)
			}
		}
	}
}

func TestHolds(t *testing.T) {
	for _, c := range []struct {
		l             list
		packets, want uint64
	}{
		{list{one(1, 1000, 10)}, 0, 1000}, {list{one(1, 1000, 10)}, 1, 920}, {list{one(1, 1000, 10)}, 12, 40}, {list{one(1, 1000, 10)}, 13, 0}, {list{one(1, 1000, 10)}, 14, 0}, // lets nothing any more
		{list{one(1, 120, 5)}, 3, 0}, {list{one(1, 121, 5)}, 3, 1}, {list{one(1, 119, 5)}, 3, 0}, // just 0, next to it
		{list{one(1, 0, 0)}, 0, 0}, {list{one(1, 0, 0)}, top, 0}, {list{one(1, 0, 511)}, 1, 0}, {list{one(1, 5, 0)}, top, 5}, {list{one(1, 5, -1)}, top, 5}, {list{one(1, 5, math.MinInt)}, 1 << 40, 5},
		{list{one(1, maxRate, 1)}, maxPackets - 1, maxRate - 8*(maxPackets-1)}, {list{one(1, maxRate, 1)}, maxPackets, maxRate - 8*maxPackets}, // where packets are held
		{list{one(1, maxRate, 1)}, maxPackets + 1, maxRate - 8*maxPackets}, {list{one(1, maxRate, 1)}, 1 << 37, maxRate - 8*maxPackets}, {list{one(1, maxRate, 1)}, 1 << 61, maxRate - 8*maxPackets}, {list{one(1, maxRate, 1)}, top, maxRate - 8*maxPackets},
		{list{one(1, maxRate, 32)}, maxPackets - 1, 256}, {list{one(1, maxRate, 32)}, maxPackets, 0}, {list{one(1, maxRate, 31)}, top, maxRate / 32}, {list{one(1, maxRate, 511)}, top, 0}, {list{one(1, maxRate, 511)}, maxPackets, 0},
		{list{one(1, top, 0)}, top, maxRate}, {list{one(1, top, 1)}, 1, maxRate - 8}, {list{one(1, maxRate+8, 1)}, 1, maxRate - 8}, // a Rate that is held
		{list{one(1, 8000, 512)}, 1, 8000 - 8*511}, {list{one(1, 8000, math.MaxInt)}, 1, 8000 - 8*511}, {list{one(1, 8000, 1<<61)}, 1, 8000 - 8*511}, {list{one(1, 8000, -40)}, 1, 8000}, // an Over that is held
		{list{one(1, 1000, 10), one(2, 1500, 40), one(3, 9000, 20)}, 0, 1000}, {list{one(1, 1000, 10), one(2, 1500, 40), one(3, 9000, 20)}, 2, 840}, {list{one(1, 1000, 10), one(2, 1500, 40), one(3, 9000, 20)}, 3, 540}, {list{one(1, 1000, 10), one(2, 1500, 40), one(3, 9000, 20)}, 5, 0},
		{list{one(1, 1000, 1), one(1, 1000, 2)}, 1, 984}, {list{one(1, 1000, 1), one(1, 1000, 1)}, 1, 992},
	} {
		for _, o := range orders(c.l) {
			if n := bound.Holds(o, c.packets); n != c.want {
				t.Errorf("P13.1: Holds(%v, %d): %d, want %d", o, c.packets, n, c.want)
			}
		}
	}
}

// TestHoldsOfEdges asks of each edge with each edge of packets.
func TestHoldsOfEdges(t *testing.T) {
	for _, rate := range rates() {
		for _, over := range overs() {
			l := list{one(1, rate, over)}
			packets := turns(heldAll(l))
			holdPackets(t, l, bound.Set(l), packets)
			l = append(l, one(2, rate, 0), one(3, 1<<39, 7))
			holdPackets(t, l, bound.Set(l), append(packets, turns(told(l))...))
		}
	}
}

func TestOwns(t *testing.T) {
	l := list{one(0, 1000, 10), one(lastOwner, 1500, 40), one(3, 9000, 20), one(4, 1000, 9), one(5, 1000, 10)}
	for _, c := range []struct {
		l     list
		owner uint32
		want  bool
	}{
		{l, 0, true}, {l, lastOwner, true}, // theirs bound
		{l, 3, false}, {l, 4, false}, {l, 5, false}, // theirs do not
		{l, 1, false}, {l, 2, false}, {l, 77, false}, {l, lastOwner - 1, false}, {l, 1 << 31, false}, // they have none
		{list{one(1, 5, 5)}, 0, false}, {list{one(1, 5, 5)}, lastOwner, false}, {list{one(0, 0, 0)}, 0, true}, {list{one(lastOwner, 0, 0)}, lastOwner, true}, {list{one(lastOwner, 0, 0)}, 0, false}, // a nought and an owner of 0
		{list{one(7, 9000, 3), one(7, 1000, 3)}, 7, true}, {list{one(7, 1000, 3), one(7, 9000, 3)}, 7, true}, // one of two of an Owner
		{list{one(6, 1000, 3), one(7, 9000, 3), one(7, 8000, 3)}, 7, false},
		{list{one(6, 1000, 3), one(7, 1000, 3)}, 7, false}, {list{one(6, 1000, 3), one(7, 1000, 3)}, 6, true}, {list{one(6, 1000, 3), one(7, 1000, 4)}, 6, false}, {list{one(6, 1000, 3), one(7, 1000, 4)}, 7, true}, // of the same Rate
		{list{one(1, 800, 1), one(2, 880, 11), one(3, 960, 21)}, 2, false}, {list{one(1, 800, 1), one(2, 880, 11), one(3, 961, 21)}, 2, true}, // three that meet at one place, or nearly
		{list{one(1, 800, 10), one(2, 1600, 20)}, 2, false}, {list{one(1, 800, 10), one(2, 1599, 20)}, 2, true}, // where the last one is just 0, just above it
		{list{one(1, maxRate, 511), one(2, top, 600)}, 2, false}, {list{one(2, maxRate, 511), one(1, top, 600)}, 1, true}, // held
	} {
		for _, o := range orders(c.l) {
			if bound.Owns(o, c.owner) != c.want {
				t.Errorf("P13.1: Owns(%v, %d): %v", o, c.owner, !c.want)
			}
		}
	}
}

// roomy answers a copy of a list behind whose length there is room, in which tuples lie that would bound, were they read.
func roomy(l list, room int) list {
	b := slices.Clone(l)
	for i := range room {
		b = append(b, one(uint32(500+i), 0, maxOver))
	}
	return b[:len(l)]
}

// TestLeavesWhatIsHandedIn holds that no call changes the list or its room, nor reads what lies there.
func TestLeavesWhatIsHandedIn(t *testing.T) {
	r := rand.New(rand.NewSource(4))
	for n := range 60 {
		for room := range 4 {
			l := draw(r, n)
			in := roomy(l, room)
			before := slices.Clone(in[:n+room])
			hold(t, in)
			if !slices.Equal(in[:n+room], before) {
				t.Fatalf("R2: what is handed in is changed: %v, was %v", in[:n+room], before)
			}
			if !slices.Equal(bound.Set(in), bound.Set(l)) || bound.Holds(in, 0) != bound.Holds(l, 0) || bound.Owns(in, 500) {
				t.Fatalf("R5: %v: what lies behind the length is read", l)
			}
		}
	}
}

// fill writes over all of a list, its spare room too.
func fill(l list) {
	l = l[:cap(l)]
	for i := range l {
		l[i] = one(999, 3, 500)
	}
}

// TestSetMakesAnew writes over what Set answered, its spare room too: what was handed in and what was answered ahead stay.
func TestSetMakesAnew(t *testing.T) {
	r := rand.New(rand.NewSource(5))
	for n := range 60 {
		in := roomy(draw(r, n), n%3)
		before := slices.Clone(in[:cap(in)])
		a, b := bound.Set(in), bound.Set(in)
		keep := slices.Clone(b[:cap(b)])
		if !slices.Equal(a, b) || !slices.Equal(a, told(in)) {
			t.Fatalf("P13.1: Set(%v): %v, %v", in, a, b)
		}
		fill(a)
		if !slices.Equal(in[:cap(in)], before) {
			t.Fatalf("R2: Set answers what is handed in: %v, was %v", in[:cap(in)], before)
		}
		if !slices.Equal(b[:cap(b)], keep) {
			t.Fatalf("R2: two answers of Set share memory: %v, was %v", b[:cap(b)], keep)
		}
		if c := bound.Set(in); !slices.Equal(c, keep[:len(b)]) {
			t.Fatalf("R2: Set keeps what it answered: %v, was %v", c, b)
		}
		if !slices.Equal(b[:cap(b)], keep) {
			t.Fatalf("R2: Set writes over what it answered: %v, was %v", b[:cap(b)], keep)
		}
		s := slices.Clone(b)
		fill(in)
		if !slices.Equal(b, s) {
			t.Fatalf("R2: what Set answered changes with what is handed in: %v, was %v", b, s)
		}
	}
}

// TestSetOfOneThatBoundsAll has a list that is its own set: it is answered anew all the same.
func TestSetOfOneThatBoundsAll(t *testing.T) {
	in := list{one(1, 800, 1), one(2, 880, 11), one(3, 1000, 21)}
	for n := range len(in) + 1 {
		s := bound.Set(in[:n])
		if !slices.Equal(s, in[:n]) {
			t.Errorf("P13.1: Set(%v): %v", in[:n], s)
		}
		fill(s)
		if !slices.Equal(in, list{one(1, 800, 1), one(2, 880, 11), one(3, 1000, 21)}) {
			t.Fatalf("R2: Set(%d of them) answers what is handed in", n)
		}
	}
}

// draw answers n tuples of one of several kinds: of few numbers, so that much is the same; about a curve, so that many bound; of numbers of any size.
func draw(r *rand.Rand, n int) list {
	kind := r.Intn(5)
	var l list
	for range n {
		a := one(uint32(r.Intn(6)), uint64(r.Intn(3000)), r.Intn(40))
		switch kind {
		case 1:
			a.Rate, a.Over = uint64(8*r.Intn(6)), r.Intn(5)
		case 2:
			a.Over = r.Intn(maxOver + 1)
			a.Rate = uint64(1<<20 + a.Over*a.Over + r.Intn(3))
		case 3:
			a.Over = r.Intn(maxOver + 1)
			a.Rate = uint64(a.Over*r.Intn(90) + 1000)
		case 4:
			a.Owner, a.Rate, a.Over = r.Uint32(), r.Uint64()>>r.Intn(64), r.Intn(700)-50
			if r.Intn(4) == 0 {
				a.Rate, a.Over = rates()[r.Intn(len(rates()))], overs()[r.Intn(len(overs()))]
			}
		}
		l = append(l, a)
	}
	return l
}

// TestRowsOfTuples makes rows of few and many tuples, and holds that the set does not hang on their order.
func TestRowsOfTuples(t *testing.T) {
	r := rand.New(rand.NewSource(6))
	for n := range 2000 {
		many := 1 + n%12
		if n%20 == 0 {
			many = 1 + r.Intn(200)
		}
		l := draw(r, many)
		hold(t, l)
		s := bound.Set(l)
		holdBounds(t, l, s)
		for range 5 {
			r.Shuffle(len(l), func(i, k int) { l[i], l[k] = l[k], l[i] })
			if again := bound.Set(l); !slices.Equal(again, s) {
				t.Fatalf("P13.1: Set(%v): %v; in another order %v", l, s, again)
			}
		}
		if again := bound.Set(s); !slices.Equal(again, s) {
			t.Fatalf("P13.1: Set(%v): %v", s, again)
		}
		var packets []uint64
		for range 40 {
			packets = append(packets, r.Uint64()>>r.Intn(64))
		}
		holdPackets(t, l, s, packets)
	}
}

// holdBounds holds that a set is what bounds: no line is below it where two of it meet, the places where they meet rise, and between them each one is the only least one.
func holdBounds(t *testing.T, l, s list) {
	t.Helper()
	from := new(big.Rat)
	for i := range s {
		if i+1 == len(s) {
			return
		}
		a, b := s[i], s[i+1]
		x := meet(a, b)
		y := line(a, x)
		if b.Over <= a.Over || b.Rate <= a.Rate || x.Cmp(from) <= 0 || y.Sign() <= 0 {
			t.Fatalf("P13.1: Set(%v): %v does not go on from %v", l, b, a)
		}
		between := new(big.Rat).Mul(new(big.Rat).Add(from, x), big.NewRat(1, 2))
		for _, c := range heldAll(l) {
			if line(c, x).Cmp(y) < 0 || line(c, from).Cmp(line(a, from)) < 0 {
				t.Fatalf("P13.1: Set(%v): %v is below %v", l, c, a)
			}
			if (c.Rate != a.Rate || c.Over != a.Over) && line(c, between).Cmp(line(a, between)) <= 0 {
				t.Fatalf("P13.1: Set(%v): %v bounds where %v is told", l, c, a)
			}
		}
		from = x
	}
}

// TestMany has more tuples than there are Overs.
func TestMany(t *testing.T) {
	r := rand.New(rand.NewSource(7))
	for kind := range 6 {
		l := draw(r, 4000)
		s, want := bound.Set(l), told(l)
		if !slices.Equal(s, want) {
			t.Errorf("P13.1: Set of many, row %d: %v, want %v", kind, s, want)
		}
		packets := []uint64{0, 1, maxPackets, top}
		for range 30 {
			packets = append(packets, r.Uint64()>>r.Intn(64))
		}
		for _, x := range packets {
			if got, want := bound.Holds(s, x), toldHolds(l, x); got != want || bound.Holds(l, x) != want {
				t.Errorf("P13.2: of many, row %d: Holds(%d): %d, want %d", kind, x, got, want)
			}
		}
	}
}

// TestSameEachTime holds that a call answers alike each time, whatever lies between.
func TestSameEachTime(t *testing.T) {
	l := list{one(5, 1000, 10), one(1, 1500, 40), one(1, 1500, 40), one(3, 9000, 20), one(2, 1000, 10)}
	s := bound.Set(l)
	r := rand.New(rand.NewSource(8))
	for range 100 {
		other := draw(r, 1+r.Intn(9))
		bound.Set(other)
		bound.Rate(other)
		bound.Holds(other, r.Uint64())
		bound.Owns(other, 5)
		if n, ok := bound.Rate(l); n != 1000 || !ok || !slices.Equal(bound.Set(l), s) || bound.Holds(l, 3) != 540 || !bound.Owns(l, 2) || bound.Owns(l, 5) {
			t.Fatal("R4: the same call answers otherwise")
		}
	}
}
