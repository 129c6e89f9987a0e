package node_test

import (
	"fmt"
	"testing"

	"paternoster/api"
	"paternoster/car"
	"paternoster/node"
	"paternoster/riser"
	"paternoster/store"
)

// P22.2

// beats are those of a car of house.
func beats(id int, life, seen int64, out bool) []api.Frame {
	var l []api.Frame
	for to := range 3 {
		if to != id {
			l = append(l, api.Frame{Kind: api.Beat, From: id, To: to, Life: life, Seen: seen, Out: out})
		}
	}
	return l
}

// ticked holds the events of a Tick against what they have to be; the frames are what it answers.
func ticked(t *testing.T, what string, n *node.Node, r *riser.Riser, obstructed bool, want ...api.Event) []api.Frame {
	t.Helper()
	frames, events := n.Tick(r, obstructed)
	same(t, what, events, want)
	return frames
}

// quietly has so many Ticks pass in which nothing is done, and nothing sent but beats.
func quietly(t *testing.T, what string, n *node.Node, r *riser.Riser, ticks int) {
	t.Helper()
	for i := range ticks {
		for _, f := range ticked(t, fmt.Sprint(what, ", quiet tick ", i), n, r, false) {
			if f.Kind != api.Beat {
				t.Errorf("%s, quiet tick %d: sends %v", what, i, f)
			}
		}
	}
	if n.Down() {
		t.Errorf("%s: down behind quiet ticks", what)
	}
}

// until has Ticks pass till something is so.
func until(t *testing.T, n *node.Node, r *riser.Riser, is func() bool) {
	t.Helper()
	for range 100 {
		if is() {
			return
		}
		n.Tick(r, false)
	}
	t.Fatal("never so: ", ask(n))
}

// did is an event of node 1 at a floor.
func did(kind, floor, dir int) api.Event {
	return api.Event{Kind: kind, Car: 1, Floor: floor, Dir: dir}
}

// cleared is node 1's of that latch.
func cleared(l api.Latch, e api.Epoch) api.Event {
	return api.Event{Kind: api.Clear, Car: 1, Latch: l, Epoch: e, Floor: l.Call.Floor}
}

// Step 1: its car

func TestTickOfOneThatIsNew(t *testing.T) {
	for id := range 3 {
		n, r := booted(t, house(), id, newCell(t), 8), newRiser(t, 5, call(1, api.Up))
		same(t, "beats", ticked(t, "the first tick", n, r, false), beats(id, 1, 0, false))
		same(t, "what it is then", ask(n), asked{Car: standing(8, false), Life: 1})
		same(t, "what is lit", len(r.Lit()), 1)
	}
}

// TestACarCall has each event of a ride: up from floor 0 to 2, then down to floor 1.
func TestACarCall(t *testing.T) {
	// A house of many cars, so that it founds no ring on the way.
	h := house()
	h.Cars = 16
	n, r := booted(t, h, 1, newCell(t), 0), newRiser(t, 5)
	n.Press(2)
	n.Press(1)
	for pos := 1; pos <= 4; pos++ {
		ticked(t, fmt.Sprint("up at ", pos), n, r, false, did(api.Move, pos/4, api.Up))
	}
	same(t, "Calls ahead of the first one", n.Calls(), []int{1, 2})
	ticked(t, "the first one", n, r, false, did(api.Open, 1, api.Up))
	same(t, "Calls behind it", n.Calls(), []int{2})
	ticked(t, "open", n, r, false)
	ticked(t, "closes", n, r, false, did(api.Close, 1, 0))
	for pos := 5; pos <= 8; pos++ {
		ticked(t, fmt.Sprint("up at ", pos), n, r, false, did(api.Move, pos/4, api.Up))
	}
	n.Press(0)
	ticked(t, "the second one", n, r, false, did(api.Open, 2, api.Down))
	same(t, "Calls behind it", n.Calls(), []int{0})
	ticked(t, "open", n, r, false)
	ticked(t, "closes", n, r, false, did(api.Close, 2, 0))
	for pos := 7; pos >= 0; pos-- {
		ticked(t, fmt.Sprint("down at ", pos), n, r, false, did(api.Move, pos/4, api.Down))
	}
	ticked(t, "the last one", n, r, false, did(api.Open, 0, api.None))
	same(t, "what it is then", ask(n), asked{Car: car.Car{State: api.State{Door: 2}}, Life: 1})
}

func TestRelevel(t *testing.T) {
	n, r := booted(t, house(), 1, newCell(t), 6), newRiser(t, 5)
	n.Press(1)
	n.Press(2)
	ticked(t, "down", n, r, false, did(api.Move, 1, api.Down))
	ticked(t, "down", n, r, false, did(api.Move, 1, api.Down))
	ticked(t, "at its level", n, r, false, did(api.Open, 1, api.Up))
	same(t, "Calls", n.Calls(), []int{2})
}

// TestAClaim has a claim be served and cleared, each event with all that it tells.
func TestAClaim(t *testing.T) {
	e, up, down := at(5, 0), latch(1, api.Up, 1), latch(1, api.Down, 1)
	n, r := fresh(t), newRiser(t, 5, up.Call, down.Call, call(0, api.Up))
	heard(t, n, token(e, 3, 0, 1, awarded(latch(0, api.Up, 1), 0), awarded(down, 1), awarded(up, 1)), r)
	for pos := 1; pos <= 4; pos++ {
		ticked(t, fmt.Sprint("up at ", pos), n, r, false, did(api.Move, pos/4, api.Up))
	}
	ticked(t, "the one of its way", n, r, false, did(api.Open, 1, api.Up), cleared(up, e))
	same(t, "Claims", n.Claims(), []api.Latch{down})
	same(t, "what is lit", r.Lit(), []api.Latch{latch(0, api.Up, 1), down})
	ticked(t, "open", n, r, false)
	ticked(t, "closes", n, r, false, did(api.Close, 1, 0))
	ticked(t, "the other one", n, r, false, did(api.Open, 1, api.Down), cleared(down, e))
	same(t, "Claims", n.Claims(), []api.Latch{})
	same(t, "what is lit", r.Lit(), []api.Latch{latch(0, api.Up, 1)})
}

// TestAClaimAndACarCall has both be served by one stop, and neither where the other one is elsewhere.
func TestAClaimAndACarCall(t *testing.T) {
	e, one, three := at(5, 0), latch(1, api.Up, 1), latch(3, api.Up, 1)
	n, r := booted(t, house(), 1, newCell(t), 4), newRiser(t, 5, one.Call, three.Call)
	heard(t, n, token(e, 3, 0, 1, awarded(one, 1), awarded(three, 1)), r)
	n.Press(1)
	n.Press(2)
	ticked(t, "both", n, r, false, did(api.Open, 1, api.Up), cleared(one, e))
	same(t, "what is left", fmt.Sprint(n.Calls(), n.Claims(), r.Lit()), fmt.Sprint([]int{2}, []api.Latch{three}, []api.Latch{three}))
	until(t, n, r, func() bool { return n.Car().State.Door > 0 && n.Car().State.Pos == 8 })
	same(t, "behind the car call", fmt.Sprint(n.Calls(), n.Claims(), r.Lit()), fmt.Sprint([]int{}, []api.Latch{three}, []api.Latch{three}))
	n.Press(0)
	until(t, n, r, func() bool { return len(n.Claims()) == 0 })
	same(t, "behind the claim", fmt.Sprint(n.Calls(), n.Claims(), r.Lit(), n.Car().State), fmt.Sprint([]int{0}, []api.Latch{}, []api.Latch{}, api.State{Pos: 12, Dir: api.Up, Door: 2}))
}

// TestWhatItDoesNotClaim has hall buttons that are lit be none of its stops.
func TestWhatItDoesNotClaim(t *testing.T) {
	n, r := fresh(t), newRiser(t, 5, call(0, api.Up), call(3, api.Up))
	heard(t, n, token(at(5, 0), 3, 0, 1, awarded(latch(0, api.Up, 1), 0)), r)
	quietly(t, "with nothing claimed", n, r, 3)
	n.Press(0)
	ticked(t, "a car call", n, r, false, did(api.Open, 0, api.None))
	same(t, "what is lit", len(r.Lit()), 2)
}

// TestClaimsThatAreNotLit has claims be dropped that somebody put out, that were lit anew since then, or that a riser has no button for.
func TestClaimsThatAreNotLit(t *testing.T) {
	e, two, three := at(5, 0), latch(2, api.Up, 1), latch(3, api.Up, 1)
	for what, do := range map[string]func(r *riser.Riser) *riser.Riser{
		"put out":         func(r *riser.Riser) *riser.Riser { r.Clear(three); return r },
		"lit anew":        func(r *riser.Riser) *riser.Riser { r.Clear(three); r.Press(three.Call); return r },
		"other buttons":   func(r *riser.Riser) *riser.Riser { return newRiser(t, 5, two.Call) },
		"a smaller house": func(r *riser.Riser) *riser.Riser { return newRiser(t, 4, two.Call) },
	} {
		n, r := fresh(t), newRiser(t, 5, two.Call, three.Call)
		heard(t, n, token(e, 3, 0, 1, awarded(two, 1), awarded(three, 1)), r)
		r = do(r)
		lit := r.Lit()
		ticked(t, what, n, r, false, did(api.Move, 0, api.Up))
		same(t, what+": Claims", n.Claims(), []api.Latch{two})
		same(t, what+": what is lit", r.Lit(), lit)
		r.Clear(two)
		// With no stop left it goes on to the next floor, and stands there.
		for pos := 2; pos <= 4; pos++ {
			ticked(t, what, n, r, false, did(api.Move, pos/4, api.Up))
			same(t, what+": Claims", n.Claims(), []api.Latch{})
		}
		quietly(t, what, n, r, 2)
	}
	// One that is lit anew where the car stands is not served.
	n, r := fresh(t), newRiser(t, 5, call(0, api.Up))
	heard(t, n, token(e, 3, 0, 1, awarded(latch(0, api.Up, 1), 1)), r)
	r.Clear(latch(0, api.Up, 1))
	r.Press(call(0, api.Up))
	quietly(t, "lit anew", n, r, 2)
	same(t, "what is lit", r.Lit(), []api.Latch{latch(0, api.Up, 2)})
}

// Step 2: a door that is stuck

// stuckAt is the how manieth obstructed tick behind the one that opens is the first one of a door that is stuck, in house: the last but one of its dwell, then three times that, and one more.
const stuckAt = 8

// outNode is a busy node whose door was obstructed till it went out, and what is lit.
func outNode(t *testing.T) (*node.Node, *riser.Riser) {
	t.Helper()
	n, _, r := busy(t)
	for i := 1; i < stuckAt; i++ {
		ticked(t, "obstructed", n, r, true)
		if n.Out() || len(n.Claims()) != 1 {
			t.Fatalf("out behind %d ticks", i)
		}
	}
	frames := ticked(t, "stuck", n, r, true, api.Event{Kind: api.Leave, Car: 1})
	same(t, "its beats", frames, beats(1, 1, 5, true))
	same(t, "one that is out", ask(n), asked{
		Car: car.Car{State: api.State{Pos: 8, Dir: api.Up, Door: 1}, Held: 7}, Life: 1, Epoch: at(5, 2), Members: []int{1, 2}, Calls: []int{0}, Out: true,
	})
	return n, r
}

func TestLeaveAndReturn(t *testing.T) {
	n, r := outNode(t)
	lit := r.Lit()
	for range 5 {
		same(t, "beats, while it is out", ticked(t, "stuck on", n, r, true), beats(1, 1, 5, true))
		if !n.Out() {
			t.Fatal("not out")
		}
	}
	if !n.Press(4) || n.Press(4) {
		t.Error("Press, while it is out")
	}
	frames := ticked(t, "free", n, r, false, did(api.Close, 2, 0), api.Event{Kind: api.Return, Car: 1})
	same(t, "its beats", frames, beats(1, 1, 5, false))
	same(t, "one that came back", ask(n), asked{
		Car: car.Car{State: api.State{Pos: 8, Dir: api.Up}}, Life: 1, Epoch: at(5, 2), Members: []int{1, 2}, Calls: []int{0, 4},
	})
	same(t, "what is lit", r.Lit(), lit)
	// Its car calls stayed.
	ticked(t, "then", n, r, false, did(api.Move, 2, api.Up))
	// And what it is awarded still, it claims again.
	_, events := heard(t, n, token(at(5, 2), 8, 1, 2, awarded(latch(4, api.Down, 1), 1)), r)
	same(t, "the token again", events, []api.Event{claim(latch(4, api.Down, 1), at(5, 2))})
}

// TestObstructedForNotTooLong has a door that is free again just ahead of it close as any other one.
func TestObstructedForNotTooLong(t *testing.T) {
	n, _, r := busy(t)
	for range stuckAt - 1 {
		ticked(t, "obstructed", n, r, true)
	}
	same(t, "beats", ticked(t, "free", n, r, false, did(api.Close, 2, 0)), beats(1, 1, 5, false))
	same(t, "Claims", n.Claims(), []api.Latch{latch(4, api.Down, 1)})
	// Obstructed, where it is closed, nothing is held.
	for range 20 {
		_, events := n.Tick(r, true)
		if n.Out() {
			t.Fatal("out, with its door closed: ", events)
		}
		if n.Car().State.Door > 0 {
			break
		}
	}
}

// TestLeaveTwice has it go out, come back, and go out again.
func TestLeaveTwice(t *testing.T) {
	n, r := outNode(t)
	n.Tick(r, false)
	n.Press(2)
	r.Clear(latch(4, api.Down, 1))
	ticked(t, "opens again", n, r, true, did(api.Open, 2, api.Down))
	for range stuckAt - 1 {
		ticked(t, "obstructed", n, r, true)
	}
	ticked(t, "stuck again", n, r, true, api.Event{Kind: api.Leave, Car: 1})
}

// TestStuckOfEachDwell has a door be stuck when it was held for more than three times the dwell.
func TestStuckOfEachDwell(t *testing.T) {
	for dwell := 1; dwell <= 8; dwell++ {
		h := house()
		h.Dwell = dwell
		n, r := booted(t, h, 1, newCell(t), 0), newRiser(t, 5)
		n.Press(0)
		ticked(t, "opens", n, r, true, did(api.Open, 0, api.None))
		ticks := 0
		for !n.Out() && ticks < 1000 {
			n.Tick(r, true)
			ticks++
		}
		same(t, fmt.Sprint("ticks till it is out, of a dwell of ", dwell), ticks, dwell-1+3*dwell+1)
	}
}

// Step 4: beats

func TestBeatsGoToEachOtherCar(t *testing.T) {
	for _, cars := range []int{1, 2, 3, 15, 16} {
		for id := range cars {
			h := house()
			h.Cars = cars
			n := booted(t, h, id, cellOf(t, 6, 8), 0)
			var want []api.Frame
			for to := range cars {
				if to != id {
					want = append(want, api.Frame{Kind: api.Beat, From: id, To: to, Life: 9, Seen: 6})
				}
			}
			for range 3 {
				same(t, fmt.Sprint("beats of ", id, " of ", cars), ticked(t, "a tick", n, newRiser(t, 5), false), want)
			}
		}
	}
}

// TestBeatsSeen has the greatest go out of the record's count, what was heard, and its epoch's count.
func TestBeatsSeen(t *testing.T) {
	for _, x := range []struct{ record, heard, epoch, want int64 }{
		{9, 0, 0, 9}, {9, 8, 0, 9}, {9, 10, 0, 10}, {0, 10, 0, 10}, {9, 8, 10, 10}, {9, 12, 10, 12}, {0, 0, 10, 10}, {mostKept, 1, 0, mostKept}, {1, mostKept, 3, mostKept}, {1, 2, api.MaxCount, api.MaxCount},
	} {
		n, r := booted(t, house(), 1, cellOf(t, x.record, 1), 0), newRiser(t, 5)
		if x.heard > 0 {
			heard(t, n, beat(2, 1, x.heard, true), r)
		}
		if x.epoch > 0 {
			heard(t, n, token(at(x.epoch, 0), 1, 0, 1), r)
		}
		same(t, fmt.Sprint("beats ", x), ticked(t, "a tick", n, r, false), beats(1, 2, x.want, false))
	}
}

// Step 5: a ring

// founding is the event of node 1 that founds e.
func founding(e api.Epoch) api.Event {
	return api.Event{Kind: api.Found, Car: 1, Epoch: e}
}

func TestARingIsFounded(t *testing.T) {
	c, r := newCell(t), newRiser(t, 5)
	n := booted(t, house(), 1, c, 8)
	quietly(t, "not yet", n, r, patience)
	frames := ticked(t, "founded", n, r, false, founding(at(1, 1)))
	// The beats, which are told ahead of it, know nothing of it.
	want := append(beats(1, 1, 0, false), api.Frame{Kind: api.Token, From: 1, To: 1, Ring: api.Ring{Epoch: at(1, 1), Hop: 1, Members: []int{1}}})
	same(t, "what it sends", frames, want)
	same(t, "what it is then", ask(n), asked{Car: standing(8, false), Life: 1, Epoch: at(1, 1), Members: []int{1}})
	same(t, "its record", kept(t, c), store.Record{Count: 1, Life: 1})
	// Its token is lost: it waits as long again.
	quietly(t, "not again yet", n, r, patience)
	frames = ticked(t, "founded again", n, r, false, founding(at(2, 1)))
	same(t, "what it sends", frames[2].Ring, api.Ring{Epoch: at(2, 1), Hop: 1, Members: []int{1}})
	same(t, "its beats", frames[:2], beats(1, 1, 1, false))
	same(t, "its record", kept(t, c), store.Record{Count: 2, Life: 1})
}

// TestARingOfEachHouse has a house of as many cars wait for 4 times so many ticks, and 8.
func TestARingOfEachHouse(t *testing.T) {
	for cars := 1; cars <= 16; cars++ {
		h := house()
		h.Cars = cars
		n, r := booted(t, h, cars-1, newCell(t), 0), newRiser(t, 5)
		quietly(t, "not yet", n, r, 4*cars+8)
		frames := ticked(t, "founded", n, r, false, api.Event{Kind: api.Found, Car: cars - 1, Epoch: at(1, cars-1)})
		same(t, "how many frames it sends", len(frames), cars)
	}
}

// TestAFoundedRingHoldsWhatIsLit has the founder of a ring of its own bid, be awarded, and claim, at once.
func TestAFoundedRingHoldsWhatIsLit(t *testing.T) {
	n, r := booted(t, house(), 1, newCell(t), 4), newRiser(t, 5, call(3, api.Up), call(1, api.Down))
	quietly(t, "not yet", n, r, patience)
	e, one, three := at(1, 1), latch(1, api.Down, 1), latch(3, api.Up, 1)
	frames := ticked(t, "founded", n, r, false, founding(e), award(1, one, e), award(1, three, e), claim(one, e), claim(three, e))
	same(t, "what it sends", frames[2], api.Frame{Kind: api.Token, From: 1, To: 1, Ring: api.Ring{Epoch: e, Hop: 1, Members: []int{1}, Entries: []api.Entry{
		awarded(one, 1, of(1, 1)), awarded(three, 1, of(1, ridden(4, 3))),
	}}})
	same(t, "Claims", n.Claims(), []api.Latch{one, three})
	// It goes to them from the next tick on.
	ticked(t, "the next tick", n, r, false, did(api.Open, 1, api.Down), cleared(one, e))
}

// keepAlive has n hear beats of others, with a count seen, and tick.
func keepAlive(t *testing.T, n *node.Node, r *riser.Riser, seen int64, others ...int) ([]api.Frame, []api.Event) {
	t.Helper()
	for _, x := range others {
		heard(t, n, beat(x, 5, seen, false), r)
	}
	return n.Tick(r, false)
}

// TestARingOfOthers has a ring founded of all that it hears, above all counts that were seen, and its bid alone on what is lit.
func TestARingOfOthers(t *testing.T) {
	c, r := newCell(t), newRiser(t, 5, call(3, api.Up))
	n := booted(t, house(), 1, c, 0)
	for i := range patience {
		frames, events := keepAlive(t, n, r, 40, 2, 15)
		same(t, fmt.Sprint("not yet, tick ", i), fmt.Sprint(frames, events), fmt.Sprint(beats(1, 1, 40, false), []api.Event{}))
	}
	frames, events := keepAlive(t, n, r, 30, 2, 15)
	same(t, "what it did", events, []api.Event{founding(at(41, 1))})
	want := append(beats(1, 1, 40, false), api.Frame{Kind: api.Token, From: 1, To: 2, Ring: api.Ring{Epoch: at(41, 1), Hop: 1, Members: []int{1, 2, 15}, Entries: []api.Entry{open(latch(3, api.Up, 1), of(1, ridden(0, 3)))}}})
	same(t, "what it sends", frames, want)
	same(t, "what it is then", ask(n), asked{Life: 1, Epoch: at(41, 1), Members: []int{1, 2, 15}, Alive: []int{2, 15}})
	same(t, "its record", kept(t, c), store.Record{Count: 41, Life: 1})
}

// TestARingOfThoseThatAreNotOut leaves out who is out, and who is heard no more.
func TestARingOfThoseThatAreNotOut(t *testing.T) {
	n, r := fresh(t), newRiser(t, 5)
	for i := range patience {
		if i < patience-api.Hold {
			heard(t, n, beat(4, 1, 0, false), r)
		}
		heard(t, n, beat(0, 1, 0, true), r)
		heard(t, n, beat(2, 1, 0, false), r)
		quietly(t, "not yet", n, r, 1)
	}
	frames := ticked(t, "founded", n, r, false, founding(at(1, 1)))
	same(t, "its members", frames[2].Ring.Members, []int{1, 2})
	same(t, "whom it goes to", frames[2].To, 2)
}

// TestALesserOneFounds has it found nothing, as long as a lesser car is alive, and at once, when it is no more.
func TestALesserOneFounds(t *testing.T) {
	n, r := fresh(t), newRiser(t, 5)
	for i := range 3 * patience {
		if _, events := keepAlive(t, n, r, 0, 0); len(events) > 0 {
			t.Fatal("a lesser one is alive, tick ", i, events)
		}
	}
	quietly(t, "it is held to be alive still", n, r, api.Hold-1)
	ticked(t, "it is not", n, r, false, founding(at(1, 1)))
}

// TestATokenPutsARingOff has it found nothing, as long as its token comes, and those that it hears are its ring.
func TestATokenPutsARingOff(t *testing.T) {
	n, r := fresh(t), newRiser(t, 5)
	hop := int64(0)
	for i := range 3 * patience {
		if i%patience == 0 {
			heard(t, n, token(at(5, 2), hop, 1, 2), r)
			hop++
		}
		heard(t, n, beat(2, 1, 0, false), r)
		quietly(t, fmt.Sprint("its token comes, tick ", i), n, r, 1)
	}
	heard(t, n, beat(2, 1, 0, false), r)
	frames := ticked(t, "it comes no more", n, r, false, founding(at(6, 1)))
	same(t, "what it sends", frames[2].Ring, api.Ring{Epoch: at(6, 1), Hop: 1, Members: []int{1, 2}})
}

// TestAnotherRingIsFounded has it found a ring, where those that it hears are not those of its epoch: one more, one less.
func TestAnotherRingIsFounded(t *testing.T) {
	for _, x := range []struct{ ring, alive, want []int }{
		{[]int{1, 2}, []int{2, 3}, []int{1, 2, 3}},
		{[]int{1, 2, 3}, []int{2}, []int{1, 2}},
		{[]int{1, 2}, nil, []int{1}},
		{[]int{1}, []int{2}, []int{1, 2}},
		{[]int{0, 1, 2}, []int{2}, []int{1, 2}},
		{[]int{1, 2}, []int{3}, []int{1, 3}},
	} {
		n, r := fresh(t), newRiser(t, 5)
		hop := int64(0)
		for range patience {
			heard(t, n, tokenOf(at(5, 2), hop, x.ring), r)
			hop++
			if _, events := keepAlive(t, n, r, 0, x.alive...); len(events) > 0 {
				t.Fatal("founded too early: ", events)
			}
		}
		heard(t, n, tokenOf(at(5, 2), hop, x.ring), r)
		frames, events := keepAlive(t, n, r, 0, x.alive...)
		same(t, fmt.Sprint("of ", x), events, []api.Event{founding(at(6, 1))})
		same(t, fmt.Sprint("of ", x), frames[2].Ring, api.Ring{Epoch: at(6, 1), Hop: 1, Members: x.want})
	}
}

// TestARingThatItFoundedPutsOthersOff has it wait from what it founded last on, whatever its ring is then.
func TestARingThatItFoundedPutsOthersOff(t *testing.T) {
	n, r := fresh(t), newRiser(t, 5)
	quietly(t, "not yet", n, r, patience)
	ticked(t, "founded", n, r, false, founding(at(1, 1)))
	for i := range patience {
		if _, events := keepAlive(t, n, r, 0, 2); len(events) > 0 {
			t.Fatal("founded again too early, tick ", i)
		}
	}
	_, events := keepAlive(t, n, r, 0, 2)
	same(t, "what it did", events, []api.Event{founding(at(2, 1))})
}

// TestTheClaimsOfANewRing has claims be dropped, and what is awarded to it anew be told again.
func TestTheClaimsOfANewRing(t *testing.T) {
	// So far that it is on its way to what it claims, when it founds a ring.
	h, l, e := house(), latch(60, api.Down, 1), at(6, 1)
	h.Floors = 64
	for _, x := range []struct {
		alive  []int
		events []api.Event
		claims []api.Latch
	}{
		{nil, []api.Event{founding(e), award(1, l, e), claim(l, e)}, []api.Latch{l}},
		{[]int{2}, []api.Event{founding(e)}, nil},
	} {
		n, r := booted(t, h, 1, newCell(t), 0), newRiser(t, 64, l.Call)
		for hop := range patience {
			heard(t, n, tokenOf(at(5, 2), int64(hop), []int{1, 3}, awarded(l, 1, of(1, 5), of(3, 9))), r)
			keepAlive(t, n, r, 0, x.alive...)
		}
		same(t, "Claims ahead of it", n.Claims(), []api.Latch{l})
		_, events := keepAlive(t, n, r, 0, x.alive...)
		same(t, "what it did", events, append([]api.Event{did(api.Move, 5, api.Up)}, x.events...))
		same(t, "Claims", n.Claims(), x.claims)
	}
}

// TestOneThatIsOutFoundsNothing has it found no ring while it is out, however long, and one at once behind that.
func TestOneThatIsOutFoundsNothing(t *testing.T) {
	n, r := outNode(t)
	for range 3 * patience {
		same(t, "beats, while it is out", ticked(t, "stuck on", n, r, true), beats(1, 1, 5, true))
	}
	e := at(6, 1)
	frames := ticked(t, "free", n, r, false, did(api.Close, 2, 0), api.Event{Kind: api.Return, Car: 1}, founding(e),
		award(1, latch(3, api.Up, 1), e), award(1, latch(4, api.Down, 1), e), claim(latch(3, api.Up, 1), e), claim(latch(4, api.Down, 1), e))
	same(t, "how many frames it sends", len(frames), 3)
}

// TestNoEpochIsLeft has it found nothing, and save nothing, where the greatest count was seen.
func TestNoEpochIsLeft(t *testing.T) {
	for _, seen := range []int64{api.MaxCount, api.MaxCount + 1, mostKept} {
		for _, how := range []string{"record", "heard"} {
			c, r := newCell(t), newRiser(t, 5, call(1, api.Up))
			if how == "record" {
				c = cellOf(t, seen, 1)
			}
			n := booted(t, house(), 1, c, 0)
			if how == "heard" {
				heard(t, n, beat(0, 1, seen, true), r)
			}
			writes := c.Writes()
			quietly(t, how, n, r, 3*patience)
			if c.Writes() != writes || n.Epoch() != (api.Epoch{}) {
				t.Error(how, ": ", ask(n))
			}
		}
	}
	// The last one may be.
	c, r := cellOf(t, api.MaxCount-1, 1), newRiser(t, 5)
	n := booted(t, house(), 1, c, 0)
	quietly(t, "not yet", n, r, patience)
	ticked(t, "the last one", n, r, false, founding(at(api.MaxCount, 1)))
	same(t, "its record", kept(t, c), store.Record{Count: api.MaxCount, Life: 2})
	quietly(t, "no more", n, r, 3*patience)
}

// TestARingWhosePowerGoes has the power go at each byte of its save.
func TestARingWhosePowerGoes(t *testing.T) {
	for k := 1; k <= puts+1; k++ {
		c, r := cellOf(t, 3, 8), newRiser(t, 5, call(1, api.Up))
		n := booted(t, house(), 1, c, 8)
		quietly(t, "not yet", n, r, patience)
		c.Arm(k)
		lit := r.Lit()
		frames, events := n.Tick(r, false)
		if k > puts {
			same(t, "the power not gone", fmt.Sprint(n.Epoch(), len(frames)), fmt.Sprint(at(4, 1), 3))
			continue
		}
		same(t, fmt.Sprint("the power gone at byte ", k), fmt.Sprint(frames, events), fmt.Sprint(beats(1, 9, 3, false), []api.Event{}))
		isDown(t, "the power gone", n, r, 8, false, 9)
		same(t, "what is lit", r.Lit(), lit)
		same(t, "its record", kept(t, c), store.Record{Count: 3, Life: 9})
	}
}

// TestARingWhosePowerGoesWithItsDoorOpen has the Close come behind all else that the tick did.
func TestARingWhosePowerGoesWithItsDoorOpen(t *testing.T) {
	for _, do := range []struct {
		ahead  int // ticks with the door open, ahead of that one
		events []api.Event
	}{
		{0, []api.Event{did(api.Open, 2, api.None), did(api.Close, 2, 0)}},
		{1, []api.Event{did(api.Close, 2, 0)}},
		{2, []api.Event{did(api.Close, 2, 0)}}, // it closes by itself, and not a second time
	} {
		c, r := newCell(t), newRiser(t, 5)
		n := booted(t, house(), 1, c, 8)
		quietly(t, "not yet", n, r, patience-do.ahead)
		n.Press(2)
		for range do.ahead {
			n.Tick(r, false)
		}
		c.Arm(5)
		frames, events := n.Tick(r, false)
		same(t, fmt.Sprint("open for ", do.ahead), fmt.Sprint(frames, events), fmt.Sprint(beats(1, 1, 0, false), do.events))
		isDown(t, "the power gone", n, r, 8, false, 1)
	}
}

// TestARingWhosePowerGoesAfterAClear has a call that was served in that tick stay so.
func TestARingWhosePowerGoesAfterAClear(t *testing.T) {
	l, e := latch(2, api.Up, 1), at(5, 2)
	c, r := newCell(t), newRiser(t, 5, l.Call)
	n := booted(t, house(), 1, c, 8)
	quietly(t, "not yet", n, r, patience)
	heard(t, n, token(e, 3, 1, 2, awarded(l, 1)), r)
	c.Arm(1)
	frames, events := n.Tick(r, false)
	same(t, "what it did", events, []api.Event{did(api.Open, 2, api.Up), cleared(l, e), did(api.Close, 2, 0)})
	same(t, "what it sends", frames, beats(1, 1, 5, false))
	same(t, "what is lit", r.Lit(), []api.Latch{})
	isDown(t, "the power gone", n, r, 8, false, 1)
}

// Order, and memory

// TestTheOrderOfATick has a tick do something in each of its steps: its car moves, it beats, and founds a ring, of what it is awarded at once.
func TestTheOrderOfATick(t *testing.T) {
	n, r := fresh(t), newRiser(t, 5, call(3, api.Up))
	quietly(t, "not yet", n, r, patience)
	n.Press(4)
	e, l := at(1, 1), latch(3, api.Up, 1)
	frames := ticked(t, "the events' order", n, r, false, did(api.Move, 0, api.Up), founding(e), award(1, l, e), claim(l, e))
	want := append(beats(1, 1, 0, false), api.Frame{Kind: api.Token, From: 1, To: 1, Ring: api.Ring{Epoch: e, Hop: 1, Members: []int{1}, Entries: []api.Entry{awarded(l, 1, of(1, 12))}}})
	same(t, "the frames' order", frames, want)
}

func TestTickHandsOutNewMemory(t *testing.T) {
	n, r := fresh(t), newRiser(t, 5, call(3, api.Up))
	m, s := fresh(t), newRiser(t, 5, call(3, api.Up))
	for i := range 3 * patience {
		frames, events := n.Tick(r, false)
		want, wantEvents := m.Tick(s, false)
		same(t, fmt.Sprint("tick ", i), fmt.Sprint(frames, events), fmt.Sprint(want, wantEvents))
		spoilFrames(frames)
		spoil(events, api.Event{Kind: 14})
		spoilAsked(n)
		same(t, fmt.Sprint("tick ", i), ask(n), ask(m))
	}
}

// TestTickKeepsNoButtons has it ask those that it is handed.
func TestTickKeepsNoButtons(t *testing.T) {
	l := latch(0, api.Up, 1)
	n, r := fresh(t), newRiser(t, 5, l.Call)
	heard(t, n, token(at(5, 0), 3, 0, 1, awarded(l, 1)), r)
	other := r.Clone()
	ticked(t, "with others", n, other, false, did(api.Open, 0, api.Up), cleared(l, at(5, 0)))
	same(t, "the ones", r.Lit(), []api.Latch{l})
	same(t, "the others", other.Lit(), []api.Latch{})
}

// TestTheCellIsKept has a node keep the cell that New was handed, and none but that.
func TestTheCellIsKept(t *testing.T) {
	c := newCell(t)
	other := c.Clone()
	n, r := booted(t, house(), 1, c, 0), newRiser(t, 5)
	quietly(t, "not yet", n, r, patience)
	ticked(t, "founded", n, r, false, founding(at(1, 1)))
	same(t, "the cell", kept(t, c), store.Record{Count: 1, Life: 1})
	same(t, "another one", kept(t, other), store.Record{})
}
