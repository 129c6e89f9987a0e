package gate_test

import (
	"fmt"
	"math"
	"slices"
	"testing"

	"paternoster/api"
	"paternoster/gate"
)

// P9.1

// The greatest count, and how many cars there may be, told anew.
const (
	mostCount = 4294967295
	mostCars  = 16
)

// at is the epoch of a count and a founder.
func at(count int64, founder int) api.Epoch {
	return api.Epoch{Count: count, Founder: founder}
}

// ring is what a token of e says at that hop, in a ring of cars 1, 4 and 9.
func ring(e api.Epoch, hop int64) api.Ring {
	return api.Ring{Epoch: e, Hop: hop, Members: []int{1, 4, 9}}
}

// check holds what g tells of itself against what it has to.
func check(t *testing.T, what string, g *gate.Gate, e api.Epoch, hop, floor int64) {
	t.Helper()
	if g.Epoch() != e || g.Hop() != hop || g.Floor() != floor {
		t.Errorf("%s: Epoch %v, Hop %d, Floor %d, not %v, %d, %d", what, g.Epoch(), g.Hop(), g.Floor(), e, hop, floor)
	}
}

// taken has car 4 take a token of e at that hop, which it has to, and holds what Would and Take answer, and where g is then, against that.
func taken(t *testing.T, what string, g *gate.Gate, e api.Epoch, hop int64, fresh bool) {
	t.Helper()
	takenBy(t, what, g, 4, ring(e, hop), fresh)
}

// takenBy is as taken, of any car and ring.
func takenBy(t *testing.T, what string, g *gate.Gate, car int, r api.Ring, fresh bool) {
	t.Helper()
	floor := g.Floor()
	would(t, what, g, car, car, r, true)
	if is, isNew := g.Take(car, car, r); !is || isNew != fresh {
		t.Errorf("%s: Take(%d, %d, %v) = %v, %v, not true, %v", what, car, car, r, is, isNew, fresh)
	}
	check(t, what, g, r.Epoch, r.Hop, floor)
}

// would holds what Would answers against what it has to, and that nothing of g changes.
func would(t *testing.T, what string, g *gate.Gate, car, to int, r api.Ring, want bool) {
	t.Helper()
	e, hop, floor := g.Epoch(), g.Hop(), g.Floor()
	for range 2 {
		if got := g.Would(car, to, r); got != want {
			t.Errorf("%s: Would(%d, %d, %v) = %v", what, car, to, r, got)
		}
	}
	check(t, what+", behind Would", g, e, hop, floor)
}

// refused has car 4 handed a token of e at that hop, which it must not take.
func refused(t *testing.T, what string, g *gate.Gate, e api.Epoch, hop int64) {
	t.Helper()
	refusedBy(t, what, g, 4, 4, ring(e, hop))
}

// refusedBy is as refused, of any car, to anybody, of any ring.
func refusedBy(t *testing.T, what string, g *gate.Gate, car, to int, r api.Ring) {
	t.Helper()
	e, hop, floor := g.Epoch(), g.Hop(), g.Floor()
	would(t, what, g, car, to, r, false)
	if is, isNew := g.Take(car, to, r); is || isNew {
		t.Errorf("%s: Take(%d, %d, %v) = %v, %v", what, car, to, r, is, isNew)
	}
	check(t, what+", refused", g, e, hop, floor)
}

// founded has e founded, and holds what Found answers, and where g is then, against what it has to be.
func founded(t *testing.T, what string, g *gate.Gate, e api.Epoch, want bool) {
	t.Helper()
	in, hop, floor := g.Epoch(), g.Hop(), g.Floor()
	if want {
		in, hop = e, 0
	}
	if got := g.Found(e); got != want {
		t.Errorf("%s: Found(%v) = %v", what, e, got)
	}
	check(t, what+", behind Found", g, in, hop, floor)
}

// notValid are epochs that are not, by their count, their founder, or both.
func notValid() []api.Epoch {
	return []api.Epoch{
		{}, at(0, 3), at(0, 15), at(-1, 3), at(math.MinInt64, 3), at(-mostCount, 3),
		at(mostCount+1, 0), at(mostCount+1, 3), at(mostCount+7, 3), at(1<<40, 3), at(math.MaxInt64, 3),
		at(6, -1), at(6, -16), at(6, mostCars), at(6, mostCars+1), at(6, 256), at(6, math.MinInt), at(6, math.MaxInt),
		at(70, mostCars), at(70, -1), at(mostCount, mostCars), at(mostCount, -1), at(1, mostCars), at(-1, -1), at(mostCount+1, mostCars),
	}
}

// inRing is a gate of floor 5 in epoch 60.7, at hop 30.
func inRing(t *testing.T) *gate.Gate {
	t.Helper()
	g := gate.New(5)
	taken(t, "made", g, at(60, 7), 30, true)
	return g
}

// New, and what a gate is at first

func TestNew(t *testing.T) {
	for _, x := range []struct{ floor, want int64 }{
		{0, 0}, {1, 1}, {2, 2}, {5, 5}, {1<<31 - 1, 1<<31 - 1}, {1 << 31, 1 << 31}, {1 << 32, 1 << 32},
		{mostCount - 1, mostCount - 1}, {mostCount, mostCount}, {mostCount + 1, mostCount + 1},
		{1<<48 - 1, 1<<48 - 1}, {math.MaxInt64 - 1, math.MaxInt64 - 1}, {math.MaxInt64, math.MaxInt64},
		{-1, 0}, {-2, 0}, {-5, 0}, {-1 << 32, 0}, {math.MinInt64 + 1, 0}, {math.MinInt64, 0},
	} {
		g := gate.New(x.floor)
		what := fmt.Sprintf("New(%d)", x.floor)
		check(t, what, g, api.Epoch{}, 0, x.want)
		check(t, what+", its Clone", g.Clone(), api.Epoch{}, 0, x.want)
	}
}

func TestEachGateIsItsOwn(t *testing.T) {
	a, b := gate.New(3), gate.New(8)
	taken(t, "a", a, at(4, 2), 6, true)
	check(t, "b, behind a's", b, api.Epoch{}, 0, 8)
	founded(t, "b", b, at(9, 1), true)
	check(t, "a, behind b's", a, at(4, 2), 6, 3)
	check(t, "a third", gate.New(3), api.Epoch{}, 0, 3)
}

func TestFloorStays(t *testing.T) {
	g := gate.New(5)
	taken(t, "a token", g, at(9, 2), 1, true)
	founded(t, "behind a token", g, at(20, 4), true)
	check(t, "at last", g, at(20, 4), 0, 5)
}

// Whom a token is for

func TestTokenForAnother(t *testing.T) {
	for _, g := range []*gate.Gate{gate.New(5), inRing(t)} {
		for _, e := range []api.Epoch{at(61, 0), at(60, 8), at(60, 7)} {
			for _, to := range []int{0, 1, 3, 5, 9, 15, 16, -1, -4, 4 + 16, 4 + 256, 4 + 1<<32, math.MinInt, math.MaxInt} {
				refusedBy(t, "for another", g, 4, to, ring(e, 31))
			}
			refusedBy(t, "for one of the ring, asked by one that is not", g, 3, 4, ring(e, 31))
			refusedBy(t, "for one that is not, asked by one of the ring", g, 4, 3, ring(e, 31))
			refusedBy(t, "for one that is not, asked by another such", g, 3, 2, ring(e, 31))
		}
	}
}

func TestEachMember(t *testing.T) {
	all := []int{0, 1, 2, 3, 4, 5, 6, 7, 8, 9, 10, 11, 12, 13, 14, 15}
	for _, members := range [][]int{all, {1, 4, 9}, {0}, {15}, {0, 15}, {7, 8}} {
		for car := range mostCars {
			g := gate.New(5)
			r := api.Ring{Epoch: at(6, 2), Hop: 3, Members: members}
			if slices.Contains(members, car) {
				takenBy(t, "one of the ring", g, car, r, true)
			} else {
				refusedBy(t, "not of the ring", g, car, car, r)
			}
		}
	}
}

func TestNoMembers(t *testing.T) {
	for _, g := range []*gate.Gate{gate.New(5), inRing(t)} {
		for _, members := range [][]int{nil, {}, make([]int, 0, 4), []int{4, 4}[:0]} {
			for _, e := range []api.Epoch{at(61, 0), at(60, 8), at(60, 7)} {
				for _, car := range []int{0, 4, 7, 15, -1} {
					refusedBy(t, "no Members", g, car, car, api.Ring{Epoch: e, Hop: 31, Members: members})
				}
			}
		}
	}
}

func TestNotAmongMembers(t *testing.T) {
	for _, g := range []*gate.Gate{gate.New(5), inRing(t)} {
		for _, e := range []api.Epoch{at(61, 0), at(60, 8), at(60, 7)} {
			for _, car := range []int{0, 2, 3, 5, 7, 8, 10, 15, 16, -1, 4 + 256, 4 + 1<<32, math.MinInt, math.MaxInt} {
				refusedBy(t, "not among Members", g, car, car, ring(e, 31))
			}
		}
	}
}

// TestMembersInAnyOrder asks of lists that a frame may not have: a car is among them, or it is not.
func TestMembersInAnyOrder(t *testing.T) {
	for _, members := range [][]int{{9, 4, 1}, {4, 9, 1}, {9, 1, 4}, {4, 4}, {9, 4, 4, 0}, {4, 99, -3}} {
		r := api.Ring{Epoch: at(60, 8), Hop: 1, Members: members}
		takenBy(t, "a list that does not rise", inRing(t), 4, r, true)
		refusedBy(t, "a list that does not rise", inRing(t), 5, 5, r)
	}
}

// TestFounderNeedsNoPlace: who founded an epoch need not be among its members.
func TestFounderNeedsNoPlace(t *testing.T) {
	for founder := range mostCars {
		taken(t, "any founder", gate.New(5), at(6, founder), 2, true)
	}
}

func TestEntriesDoNotMatter(t *testing.T) {
	r := ring(at(60, 7), 31)
	r.Entries = []api.Entry{{Latch: api.Latch{Call: api.Call{Floor: 3, Dir: api.Up}, Gen: 1}, Bids: []api.Bid{{Car: 4, Ticks: 9}}, Award: 9}, {Award: -7}}
	takenBy(t, "with Entries", inRing(t), 4, r, false)
	r.Hop = 30
	refusedBy(t, "with Entries", inRing(t), 4, 4, r)
}

// Which epoch a token may be of

func TestTokenOfEpochThatIsNotValid(t *testing.T) {
	for _, e := range notValid() {
		for _, hop := range []int64{0, 1, 31, api.MaxHop} {
			refused(t, "a new gate of floor 0", gate.New(0), e, hop)
			refused(t, "a new gate of a floor below 0", gate.New(-9), e, hop)
			refused(t, "a new gate", gate.New(5), e, hop)
			refused(t, "in a ring", inRing(t), e, hop)
		}
	}
}

func TestTokenOfValidEpochAtTheEdges(t *testing.T) {
	for _, floor := range []int64{-1, 0} {
		for _, e := range []api.Epoch{at(1, 0), at(1, 15), at(2, 3), at(mostCount, 0), at(mostCount, 15)} {
			taken(t, "a new gate of floor 0", gate.New(floor), e, 0, true)
		}
	}
}

func TestTokenAndTheFloor(t *testing.T) {
	for _, floor := range []int64{1, 2, 5, 300, 1<<31 - 1, 1 << 31, mostCount - 2, mostCount - 1} {
		for _, founder := range []int{0, 7, 15} {
			what := fmt.Sprint("floor ", floor)
			refused(t, what+", below", gate.New(floor), at(floor-1, founder), 9)
			refused(t, what+", a count of 1", gate.New(floor), at(1, founder), 9)
			refused(t, what+", the floor itself", gate.New(floor), at(floor, founder), 9)
			refused(t, what+", the floor itself, a late hop", gate.New(floor), at(floor, founder), api.MaxHop)
			taken(t, what+", just above", gate.New(floor), at(floor+1, founder), 0, true)
			taken(t, what+", the greatest count", gate.New(floor), at(mostCount, founder), 9, true)
		}
	}
}

func TestFloorThatNoneIsAbove(t *testing.T) {
	for _, floor := range []int64{mostCount, mostCount + 1, 1 << 40, 1<<48 - 1, math.MaxInt64 - 1, math.MaxInt64} {
		for _, e := range []api.Epoch{at(1, 3), at(6, 3), at(mostCount-1, 3), at(mostCount, 3), at(mostCount, 15), at(mostCount+1, 3), at(math.MaxInt64, 3)} {
			g := gate.New(floor)
			refused(t, "a floor that none is above", g, e, 9)
			founded(t, "a floor that none is above", g, e, false)
		}
	}
}

func TestEpochAgainstTheGates(t *testing.T) {
	for _, x := range []struct {
		e     api.Epoch
		hop   int64
		is    bool
		fresh bool
	}{
		{at(59, 7), 99, false, false}, {at(59, 15), 99, false, false}, {at(59, 0), 31, false, false}, {at(6, 15), 31, false, false},
		{at(60, 6), 99, false, false}, {at(60, 6), 31, false, false}, {at(60, 0), 31, false, false}, {at(60, 6), api.MaxHop, false, false},
		{at(60, 7), 31, true, false}, {at(60, 7), 30, false, false}, {at(60, 7), 29, false, false},
		{at(60, 8), 31, true, true}, {at(60, 8), 30, true, true}, {at(60, 8), 29, true, true}, {at(60, 8), 0, true, true}, {at(60, 15), 0, true, true},
		{at(61, 7), 31, true, true}, {at(61, 7), 30, true, true}, {at(61, 7), 0, true, true},
		{at(61, 0), 0, true, true}, {at(61, 15), 0, true, true}, {at(62, 0), 1, true, true}, {at(600, 3), 0, true, true}, {at(mostCount, 0), 0, true, true},
	} {
		g := inRing(t)
		if x.is {
			taken(t, "in a ring", g, x.e, x.hop, x.fresh)
		} else {
			refused(t, "in a ring", g, x.e, x.hop)
		}
	}
}

func TestEachEpochBehindEach(t *testing.T) {
	var rising []api.Epoch
	for _, count := range []int64{6, 7, 9, 10, 1 << 31, mostCount - 1, mostCount} {
		for _, founder := range []int{0, 1, 9, 10, 15} {
			rising = append(rising, at(count, founder))
		}
	}
	for i, in := range rising {
		for k, e := range rising {
			g, f := gate.New(5), gate.New(5)
			taken(t, "the first", g, in, 4, true)
			founded(t, "the first", f, in, true)
			founded(t, "the second", g.Clone(), e, k > i)
			founded(t, "the second", f.Clone(), e, k > i)
			if k > i {
				taken(t, "the second", g, e, 4, true)
				taken(t, "the second", f, e, 0, true)
			} else {
				refused(t, "the second", g, e, 4)
				refused(t, "the second", f, e, 0)
			}
		}
	}
}

// The hop

func TestHopInTheGatesEpoch(t *testing.T) {
	for _, hop := range []int64{31, 32, 33, 60, 1 << 31, 1 << 32, api.MaxHop - 1, api.MaxHop} {
		taken(t, "a later hop", inRing(t), at(60, 7), hop, false)
	}
	for _, hop := range []int64{30, 29, 28, 1, 0, -1, -31, math.MinInt64} {
		refused(t, "no later hop", inRing(t), at(60, 7), hop)
	}
}

// TestHopWithoutBounds: the chapter names no range of a Hop, and no hop is so far from another that it is not held against it.
func TestHopWithoutBounds(t *testing.T) {
	hops := []int64{math.MinInt64, math.MinInt64 + 1, -api.MaxHop, -1, 0, 1, 2, 30, 1<<31 - 1, 1 << 31, 1 << 32, api.MaxHop - 1, api.MaxHop, api.MaxHop + 1, math.MaxInt64 - 1, math.MaxInt64}
	for i, in := range hops {
		for k, hop := range hops {
			g := gate.New(5)
			taken(t, "a new epoch, at any hop", g, at(6, 3), in, true)
			if k > i {
				taken(t, "a later hop", g, at(6, 3), hop, false)
			} else {
				refused(t, "no later hop", g, at(6, 3), hop)
			}
			taken(t, "a newer epoch, at any hop", g, at(6, 4), hop, true)
			taken(t, "a newer count, at any hop", g, at(7, 0), in, true)
		}
	}
}

func TestTwice(t *testing.T) {
	g := gate.New(5)
	for _, x := range []struct {
		e     api.Epoch
		hop   int64
		fresh bool
	}{{at(6, 2), 0, true}, {at(6, 2), 1, false}, {at(6, 2), 4, false}, {at(6, 3), 0, true}, {at(7, 0), 9, true}, {at(7, 0), api.MaxHop, false}} {
		taken(t, "once", g, x.e, x.hop, x.fresh)
		for range 3 {
			refused(t, "the same again", g, x.e, x.hop)
		}
		refusedBy(t, "the same again, by another", g, 1, 1, ring(x.e, x.hop))
	}
	for _, e := range []api.Epoch{at(6, 2), at(6, 3)} {
		refused(t, "an epoch that it has left", g, e, 99)
	}
}

// TestTurnedRound: a token that was overtaken on its way is not taken when it comes.
func TestTurnedRound(t *testing.T) {
	g := gate.New(0)
	taken(t, "the first", g, at(1, 1), 3, true)
	taken(t, "far ahead", g, at(1, 1), 9, false)
	for hop := range int64(10) {
		refused(t, "overtaken", g, at(1, 1), hop)
	}
	taken(t, "the next", g, at(1, 1), 10, false)
}

func TestMembersMayChangeOnTheWay(t *testing.T) {
	g := inRing(t)
	takenBy(t, "other members", g, 2, api.Ring{Epoch: at(60, 7), Hop: 31, Members: []int{2}}, false)
	refusedBy(t, "other members", g, 4, 4, api.Ring{Epoch: at(60, 7), Hop: 32, Members: []int{2}})
	takenBy(t, "by another car", g, 9, ring(at(60, 7), 32), false)
}

// Would

func TestWouldChangesNothing(t *testing.T) {
	g := inRing(t)
	would(t, "a newer epoch", g, 4, 4, ring(at(70, 2), 5), true)
	would(t, "a later hop", g, 4, 4, ring(at(60, 7), 99), true)
	would(t, "an older epoch", g, 4, 4, ring(at(59, 2), 5), false)
	would(t, "for another", g, 4, 1, ring(at(80, 2), 5), false)
	taken(t, "behind Would", g, at(60, 7), 31, false)
	taken(t, "behind Would", g, at(60, 8), 0, true)
}

// Refused

func TestRefusedChangesNothing(t *testing.T) {
	for what, do := range map[string]func(g *gate.Gate){
		"Take for another":            func(g *gate.Gate) { g.Take(4, 1, ring(at(90, 7), 40)) },
		"Take by no member":           func(g *gate.Gate) { g.Take(3, 3, ring(at(90, 7), 40)) },
		"Take of no members":          func(g *gate.Gate) { g.Take(4, 4, api.Ring{Epoch: at(90, 7), Hop: 40}) },
		"Take of an epoch not Valid":  func(g *gate.Gate) { g.Take(4, 4, ring(at(90, 16), 40)) },
		"Take below the floor":        func(g *gate.Gate) { g.Take(4, 4, ring(at(4, 7), 40)) },
		"Take of the floor":           func(g *gate.Gate) { g.Take(4, 4, ring(at(5, 7), 40)) },
		"Take of an epoch behind":     func(g *gate.Gate) { g.Take(4, 4, ring(at(60, 6), 40)) },
		"Take at the same hop":        func(g *gate.Gate) { g.Take(4, 4, ring(at(60, 7), 30)) },
		"Take at a lesser hop":        func(g *gate.Gate) { g.Take(4, 4, ring(at(60, 7), 2)) },
		"Found of an epoch not Valid": func(g *gate.Gate) { g.Found(at(mostCount+1, 7)) },
		"Found below the floor":       func(g *gate.Gate) { g.Found(at(4, 7)) },
		"Found of an epoch behind":    func(g *gate.Gate) { g.Found(at(60, 6)) },
		"Found of the gate's own":     func(g *gate.Gate) { g.Found(at(60, 7)) },
	} {
		g := inRing(t)
		do(g)
		check(t, what, g, at(60, 7), 30, 5)
		refused(t, what+", then the same hop", g, at(60, 7), 30)
		taken(t, what+", then the next hop", g, at(60, 7), 31, false)
		taken(t, what+", then the next founder", g, at(60, 8), 0, true)
	}
}

func TestRefusedByANewGate(t *testing.T) {
	g := gate.New(5)
	refused(t, "below the floor", g, at(4, 3), 7)
	founded(t, "the floor", g, at(5, 3), false)
	refusedBy(t, "for another", g, 4, 9, ring(at(9, 3), 7))
	founded(t, "not Valid", g, at(9, mostCars), false)
	check(t, "none taken", g, api.Epoch{}, 0, 5)
	taken(t, "just above the floor", g, at(6, 0), 0, true)
}

// Found

func TestFoundOfEpochThatIsNotValid(t *testing.T) {
	for _, e := range notValid() {
		founded(t, "a new gate of floor 0", gate.New(0), e, false)
		founded(t, "a new gate of a floor below 0", gate.New(-9), e, false)
		founded(t, "a new gate", gate.New(5), e, false)
		founded(t, "in a ring", inRing(t), e, false)
	}
}

func TestFoundAndTheFloor(t *testing.T) {
	for _, floor := range []int64{1, 2, 5, 300, 1<<31 - 1, 1 << 31, mostCount - 2, mostCount - 1} {
		for _, founder := range []int{0, 7, 15} {
			what := fmt.Sprint("floor ", floor)
			founded(t, what+", below", gate.New(floor), at(floor-1, founder), false)
			founded(t, what+", a count of 1", gate.New(floor), at(1, founder), false)
			founded(t, what+", the floor itself", gate.New(floor), at(floor, founder), false)
			founded(t, what+", just above", gate.New(floor), at(floor+1, founder), true)
			founded(t, what+", the greatest count", gate.New(floor), at(mostCount, founder), true)
		}
	}
	for _, floor := range []int64{-1, 0} {
		for _, e := range []api.Epoch{at(1, 0), at(1, 15), at(2, 3), at(mostCount, 0), at(mostCount, 15)} {
			founded(t, "floor 0", gate.New(floor), e, true)
		}
	}
}

func TestFoundAgainstTheGates(t *testing.T) {
	for _, x := range []struct {
		e  api.Epoch
		is bool
	}{
		{at(59, 7), false}, {at(59, 15), false}, {at(6, 0), false}, {at(60, 6), false}, {at(60, 0), false}, {at(60, 7), false},
		{at(60, 8), true}, {at(60, 15), true}, {at(61, 0), true}, {at(61, 7), true}, {at(61, 15), true}, {at(900, 2), true}, {at(mostCount, 0), true},
	} {
		founded(t, "in a ring that was joined", inRing(t), x.e, x.is)
		g := gate.New(5)
		founded(t, "made", g, at(60, 7), true)
		founded(t, "in a ring that was founded", g, x.e, x.is)
	}
}

func TestTokenBehindFound(t *testing.T) {
	g := inRing(t)
	founded(t, "behind a token", g, at(61, 4), true)
	refused(t, "its own token, as it sent it", g, at(61, 4), 0)
	refused(t, "below hop 0", g, at(61, 4), -1)
	refused(t, "the epoch that it left", g, at(60, 7), 99)
	taken(t, "the next hop", g, at(61, 4), 1, false)
	founded(t, "the same once more", g, at(61, 4), false)
	taken(t, "round the ring", g, at(61, 4), 3, false)
	founded(t, "the next", g, at(61, 5), true)
	refused(t, "hop 0 of the next", g, at(61, 5), 0)
	taken(t, "a later hop of the next", g, at(61, 5), 31, false)
	founded(t, "behind a late hop", g, at(62, 0), true)
	taken(t, "another's, by its founder", g, at(62, 1), 0, true)
}

func TestFoundTwice(t *testing.T) {
	g := gate.New(5)
	founded(t, "once", g, at(6, 4), true)
	founded(t, "twice", g, at(6, 4), false)
	taken(t, "its token comes", g, at(6, 4), 8, false)
	founded(t, "behind its token", g, at(6, 4), false)
	refused(t, "hop 8 again", g, at(6, 4), 8)
}

// Clone

func TestClone(t *testing.T) {
	for what, do := range map[string]func(g *gate.Gate){
		"a later hop":      func(g *gate.Gate) { g.Take(4, 4, ring(at(60, 7), 31)) },
		"a newer founder":  func(g *gate.Gate) { g.Take(4, 4, ring(at(60, 8), 1)) },
		"a newer count":    func(g *gate.Gate) { g.Take(4, 4, ring(at(61, 0), 30)) },
		"Found":            func(g *gate.Gate) { g.Found(at(60, 9)) },
		"Found of a count": func(g *gate.Gate) { g.Found(at(70, 7)) },
		"one refused":      func(g *gate.Gate) { g.Take(4, 4, ring(at(60, 7), 30)) },
	} {
		g := inRing(t)
		do(g.Clone())
		checkInRing(t, what+" in a Clone", g)
		g = inRing(t)
		c := g.Clone()
		do(g)
		checkInRing(t, what+" behind a Clone", c)
	}
}

// checkInRing holds a gate that is as inRing makes it against what it tells, and then takes.
func checkInRing(t *testing.T, what string, g *gate.Gate) {
	t.Helper()
	check(t, what, g, at(60, 7), 30, 5)
	check(t, what+", its Clone", g.Clone(), at(60, 7), 30, 5)
	check(t, what+", its Clone's Clone", g.Clone().Clone(), at(60, 7), 30, 5)
	founded(t, what, g, at(60, 7), false)
	refused(t, what+", hop 30", g, at(60, 7), 30)
	taken(t, what+", hop 31", g, at(60, 7), 31, false)
	taken(t, what+", hop 0 of the next", g, at(60, 8), 0, true)
}

func TestCloneOfNew(t *testing.T) {
	g := gate.New(5)
	c := g.Clone()
	check(t, "a Clone of a new one", c, api.Epoch{}, 0, 5)
	refused(t, "the floor, in a Clone", c, at(5, 3), 1)
	founded(t, "the floor, in a Clone", c, at(5, 3), false)
	taken(t, "in a Clone", c, at(6, 3), 1, true)
	check(t, "what it was made of", g, api.Epoch{}, 0, 5)
	founded(t, "what it was made of", g, at(6, 2), true)
	check(t, "the Clone", c, at(6, 3), 1, 5)
	if c == g || g.Clone() == g {
		t.Error("a Clone is the gate itself")
	}
}

// Memory

// TestMemory has a Members list with car 5 behind its end, and ahead of its start, and asks for it.
func TestMemory(t *testing.T) {
	all := []int{5, 9, 4, 1, 5, 5}
	was := slices.Clone(all)
	entries := []api.Entry{{Award: -1}}
	r := api.Ring{Epoch: at(6, 3), Hop: 2, Members: all[1:4], Entries: entries}
	g := gate.New(5)
	refusedBy(t, "behind its length", g, 5, 5, r)
	takenBy(t, "a list within another", g, 4, r, true)
	refusedBy(t, "behind its length", g, 5, 5, r)
	if !slices.Equal(all, was) || len(entries) != 1 || entries[0].Award != -1 || entries[0].Bids != nil {
		t.Errorf("what was handed in became %v, %v", all, entries)
	}
}

// TestNotKept writes into a ring that was taken.
func TestNotKept(t *testing.T) {
	g := gate.New(5)
	r := ring(at(6, 3), 2)
	takenBy(t, "taken", g, 4, r, true)
	r.Members[1], r.Epoch, r.Hop = 7, at(99, 9), 99
	check(t, "behind what was written", g, at(6, 3), 2, 5)
	taken(t, "behind what was written", g, at(6, 3), 3, false)
}

// Plays

// token is what Take is handed; or Found, of its ring the epoch alone.
type token struct {
	found   bool
	car, to int
	ring    api.Ring
}

// told is a plain telling of the chapter: all that was taken, one behind the other; the gate is where the last one had it. Its list is never written into.
type told struct {
	floor int64
	taken []api.Ring
}

// last is where the gate is.
func (p told) last() (api.Epoch, int64) {
	if len(p.taken) == 0 {
		return api.Epoch{}, 0
	}
	r := p.taken[len(p.taken)-1]
	return r.Epoch, r.Hop
}

// valid is whether e may be, and its count is above the floor.
func (p told) valid(e api.Epoch) bool {
	return e.Count > 0 && e.Count <= mostCount && e.Founder >= 0 && e.Founder < mostCars && e.Count > p.floor
}

// do is what the gate answers to x, and what it is then.
func (p told) do(x token) (is, fresh bool, then told) {
	e, hop := p.last()
	ahead := x.ring.Epoch.Count > e.Count || x.ring.Epoch.Count == e.Count && x.ring.Epoch.Founder > e.Founder
	if x.found {
		is = p.valid(x.ring.Epoch) && ahead
	} else {
		later := x.ring.Epoch == e && x.ring.Hop > hop
		is = x.to == x.car && slices.Contains(x.ring.Members, x.car) && p.valid(x.ring.Epoch) && (ahead || later)
	}
	if !is {
		return false, false, p
	}
	return true, !x.found && ahead, told{p.floor, slices.Concat(p.taken, []api.Ring{x.ring})}
}

// same holds all that g tells of itself against p.
func (p told) same(g *gate.Gate) bool {
	e, hop := p.last()
	return g.Epoch() == e && g.Hop() == hop && g.Floor() == p.floor
}

// tokens are those of which a play's calls are made.
func tokens() []token {
	var l []token
	for _, e := range []api.Epoch{{}, at(1, 15), at(2, 0), at(2, 1), at(3, 0), at(3, 16), at(-1, 0)} {
		l = append(l, token{found: true, ring: api.Ring{Epoch: e}})
		for hop := range int64(3) {
			l = append(l, token{car: 4, to: 4, ring: ring(e, hop)})
		}
	}
	return append(l,
		token{car: 4, to: 1, ring: ring(at(3, 2), 1)},
		token{car: 1, to: 4, ring: ring(at(3, 2), 1)},
		token{car: 3, to: 3, ring: ring(at(3, 2), 1)},
		token{car: 9, to: 9, ring: ring(at(2, 1), 1)},
		token{car: 4, to: 4, ring: api.Ring{Epoch: at(3, 2), Hop: 1}},
	)
}

// answers is what g answers to x; a Would that is not as Take is makes ok false.
func answers(g *gate.Gate, x token) (is, fresh, ok bool) {
	if x.found {
		return g.Found(x.ring.Epoch), false, true
	}
	would := g.Would(x.car, x.to, x.ring)
	is, fresh = g.Take(x.car, x.to, x.ring)
	return is, fresh, would == is
}

// play makes each play of so many calls, each on a Clone of g, so that none of them may be seen in g.
func play(t *testing.T, what string, g *gate.Gate, p told, calls int) {
	if calls == 0 {
		return
	}
	for _, x := range tokens() {
		c := g.Clone()
		want, wantFresh, q := p.do(x)
		now := what + fmt.Sprint(" ", x)
		if is, fresh, ok := answers(c, x); is != want || fresh != wantFresh || !ok || !q.same(c) {
			t.Fatalf("play%s: another answer: %v, %v, not %v, %v", now, is, fresh, want, wantFresh)
		}
		play(t, now, c, q, calls-1)
	}
	if !p.same(g) {
		t.Fatalf("play%s: seen in what it was made of", what)
	}
}

func TestEachPlay(t *testing.T) {
	for floor := range int64(4) {
		play(t, fmt.Sprint(" of floor ", floor, ":"), gate.New(floor), told{floor: floor}, 3)
	}
}
