package node_test

import (
	"fmt"
	"math"
	"slices"
	"testing"

	"paternoster/api"
	"paternoster/car"
	"paternoster/node"
	"paternoster/riser"
	"paternoster/store"
)

// P22.3

// beat is a Beat for node 1.
func beat(from int, life, seen int64, out bool) api.Frame {
	return api.Frame{Kind: api.Beat, From: from, To: 1, Life: life, Seen: seen, Out: out}
}

// token is a Token of two members for node 1, from the first one.
func token(e api.Epoch, hop int64, first, second int, entries ...api.Entry) api.Frame {
	return tokenOf(e, hop, []int{first, second}, entries...)
}

// tokenOf is a Token of those members for node 1.
func tokenOf(e api.Epoch, hop int64, members []int, entries ...api.Entry) api.Frame {
	return api.Frame{Kind: api.Token, From: members[0], To: 1, Ring: api.Ring{Epoch: e, Hop: hop, Members: members, Entries: entries}}
}

// open is an entry that is awarded to nobody yet.
func open(l api.Latch, bids ...api.Bid) api.Entry {
	return api.Entry{Latch: l, Bids: bids, Award: -1}
}

// awarded is an entry that is awarded to a car.
func awarded(l api.Latch, to int, bids ...api.Bid) api.Entry {
	return api.Entry{Latch: l, Bids: bids, Award: to}
}

// of is a bid of a car, of so many ticks.
func of(car, ticks int) api.Bid {
	return api.Bid{Car: car, Ticks: ticks}
}

// join, claim and award are events of node 1.
func join(e api.Epoch) api.Event { return api.Event{Kind: api.Join, Car: 1, Epoch: e} }

func claim(l api.Latch, e api.Epoch) api.Event {
	return api.Event{Kind: api.Claim, Car: 1, Latch: l, Epoch: e}
}

func award(to int, l api.Latch, e api.Epoch) api.Event {
	return api.Event{Kind: api.Award, Car: to, Latch: l, Epoch: e}
}

// heard is what n, which has to hear f, answers: a Beat has it send nothing; a Token has it be in that epoch, with those members.
func heard(t *testing.T, n *node.Node, f api.Frame, r *riser.Riser) ([]api.Frame, []api.Event) {
	t.Helper()
	frames, events := n.Hear(f, r)
	if f.Kind == api.Beat {
		same(t, fmt.Sprint("heard ", f), fmt.Sprint(frames, events), "[] []")
		return nil, nil
	}
	same(t, fmt.Sprint("heard ", f), fmt.Sprint(n.Epoch(), n.Members()), fmt.Sprint(f.Ring.Epoch, f.Ring.Members))
	return frames, events
}

// unheard has n handed f, which it must not hear.
func unheard(t *testing.T, what string, n *node.Node, f api.Frame, r *riser.Riser) {
	t.Helper()
	was, lit := ask(n), r.Lit()
	if frames, events := n.Hear(f, r); len(frames)+len(events) > 0 {
		t.Errorf("%s: %v heard: %v, %v", what, f, frames, events)
	}
	same(t, what, ask(n), was)
	same(t, what+": what is lit", r.Lit(), lit)
}

// Beats

func TestHearABeat(t *testing.T) {
	n, r := fresh(t), newRiser(t, 5, call(3, api.Up))
	heard(t, n, beat(2, 5, 0, false), r)
	same(t, "behind one beat", ask(n), asked{Life: 1, Alive: []int{2}})
	heard(t, n, beat(0, 0, 0, false), r)
	same(t, "behind two", n.Alive(), []int{0, 2})
	heard(t, n, beat(2, 5, 0, true), r)
	same(t, "one of them out", n.Alive(), []int{0})
	heard(t, n, beat(2, 4, 0, false), r)
	same(t, "an elder life", n.Alive(), []int{0})
	heard(t, n, beat(2, 6, 0, false), r)
	same(t, "a later life", n.Alive(), []int{0, 2})
	heard(t, n, beat(15, mostKept, mostKept, false), r)
	same(t, "one that is no car of the house", n.Alive(), []int{0, 2, 15})
}

func TestHearItsOwnBeat(t *testing.T) {
	n, r := fresh(t), newRiser(t, 5)
	unheard(t, "its own beat", n, beat(1, 5, 9, false), r)
	unheard(t, "its own beat, out", n, beat(1, 5, 9, true), r)
	f, _ := n.Tick(r, false)
	same(t, "what it beats", f, beats(1, 1, 0, false))
}

// TestHearABeatsSeen has the greatest count that was heard, and no lesser one, go out with its own beats.
func TestHearABeatsSeen(t *testing.T) {
	n, r := fresh(t), newRiser(t, 5)
	for _, x := range []struct{ seen, want int64 }{{4, 4}, {3, 4}, {1 << 32, 1 << 32}, {7, 1 << 32}, {mostKept, mostKept}} {
		heard(t, n, beat(2, 1, x.seen, true), r)
		f, _ := n.Tick(r, false)
		same(t, "what it beats", f, beats(1, 1, x.want, false))
	}
}

func TestABeatIsHeardForAWhile(t *testing.T) {
	n, r := fresh(t), newRiser(t, 5)
	heard(t, n, beat(2, 1, 0, false), r)
	for range api.Hold {
		n.Tick(r, false)
		same(t, "as long as it is held to be alive", n.Alive(), []int{2})
	}
	n.Tick(r, false)
	same(t, "behind that", n.Alive(), []int{})
	heard(t, n, beat(2, 1, 0, false), r)
	same(t, "heard again", n.Alive(), []int{2})
}

// What is not heard

func TestHearWhatIsForOthers(t *testing.T) {
	for _, to := range []int{0, 2, 3, 15} {
		n, r := fresh(t), newRiser(t, 5, call(3, api.Up))
		for _, f := range []api.Frame{beat(2, 5, 9, false), token(at(5, 0), 3, 0, 1), tokenOf(at(5, 0), 3, []int{0, 1, 2, 3, 15})} {
			f.To = to
			unheard(t, "for somebody else", n, f, r)
		}
		f, _ := n.Tick(r, false)
		same(t, "what it beats", f, beats(1, 1, 0, false))
	}
}

// notValid are frames that are like ones which node 1 would hear, but for a fault each.
func notValid() []api.Frame {
	var l []api.Frame
	change := func(f api.Frame, do func(f *api.Frame)) {
		f.Ring.Members = slices.Clone(f.Ring.Members)
		f.Ring.Entries = slices.Clone(f.Ring.Entries)
		do(&f)
		l = append(l, f)
	}
	b, k := beat(2, 5, 9, false), token(at(5, 0), 3, 0, 1, open(latch(3, api.Up, 1), of(0, 5)))
	for _, n := range beyond() {
		if n != api.Beat && n != api.Token {
			change(b, func(f *api.Frame) { f.Kind = n })
			change(k, func(f *api.Frame) { f.Kind = n })
		}
		if n < 0 || n > 15 {
			change(b, func(f *api.Frame) { f.From = n })
			change(k, func(f *api.Frame) { f.From = n })
			change(b, func(f *api.Frame) { f.To = n })
			change(k, func(f *api.Frame) { f.To = n })
			change(k, func(f *api.Frame) { f.Ring.Epoch.Founder = n })
			change(k, func(f *api.Frame) { f.Ring.Members = []int{1, n} })
		}
		if n < 0 || n > mostKept {
			change(b, func(f *api.Frame) { f.Life = int64(n) })
			change(b, func(f *api.Frame) { f.Seen = int64(n) })
		}
		if n < 0 || n > api.MaxHop {
			change(k, func(f *api.Frame) { f.Ring.Hop = int64(n) })
		}
		if n < 1 || n > api.MaxCount {
			change(k, func(f *api.Frame) { f.Ring.Epoch.Count = int64(n) })
		}
		if n < 0 || n > 63 {
			change(k, func(f *api.Frame) { f.Ring.Entries[0].Latch.Call.Floor = n })
		}
		if n != api.Up && n != api.Down {
			change(k, func(f *api.Frame) { f.Ring.Entries[0].Latch.Call.Dir = n })
		}
		if n < 1 || n > 1<<31-1 {
			change(k, func(f *api.Frame) { f.Ring.Entries[0].Latch.Gen = n })
		}
		if n < -1 || n > 1 {
			change(k, func(f *api.Frame) { f.Ring.Entries[0].Award = n })
			change(k, func(f *api.Frame) { f.Ring.Entries[0].Bids = []api.Bid{of(n, 5)} })
		}
		if n < 0 || n > api.MaxTicks {
			change(k, func(f *api.Frame) { f.Ring.Entries[0].Bids = []api.Bid{of(0, n)} })
		}
	}
	change(b, func(f *api.Frame) { f.Ring = k.Ring })
	change(b, func(f *api.Frame) { f.Ring.Hop = 1 })
	change(k, func(f *api.Frame) { f.Life = 1 })
	change(k, func(f *api.Frame) { f.Seen = 1 })
	change(k, func(f *api.Frame) { f.Out = true })
	change(k, func(f *api.Frame) { f.Ring.Members = nil })
	change(k, func(f *api.Frame) { f.Ring.Members = []int{1, 0} })
	change(k, func(f *api.Frame) { f.Ring.Members = []int{0, 1, 1} })
	change(k, func(f *api.Frame) { f.Ring.Entries = append(f.Ring.Entries, f.Ring.Entries[0]) })
	return append(l, api.Frame{})
}

func TestHearWhatIsNotValid(t *testing.T) {
	for _, f := range notValid() {
		n, r := fresh(t), newRiser(t, 5, call(3, api.Up))
		unheard(t, "not valid", n, f, r)
	}
	n, r := fresh(t), newRiser(t, 5, call(3, api.Up))
	for _, f := range notValid() {
		unheard(t, "not valid", n, f, r)
	}
	f, _ := n.Tick(r, false)
	same(t, "what it beats", f, beats(1, 1, 0, false))
	heard(t, n, token(at(5, 0), 3, 0, 1, open(latch(3, api.Up, 1), of(0, 5))), r)
}

// Tokens: which ones are taken

func TestHearAToken(t *testing.T) {
	c, r := newCell(t), newRiser(t, 5)
	n := booted(t, house(), 1, c, 5)
	frames, events := heard(t, n, token(at(5, 0), 3, 1, 2), r)
	same(t, "what it sends on", frames, []api.Frame{{Kind: api.Token, From: 1, To: 2, Ring: api.Ring{Epoch: at(5, 0), Hop: 4, Members: []int{1, 2}}}})
	same(t, "what it did", events, []api.Event{join(at(5, 0))})
	same(t, "what it is then", ask(n), asked{Car: standing(5, true), Life: 1, Epoch: at(5, 0), Members: []int{1, 2}})
	same(t, "its record", kept(t, c), store.Record{Count: 5, Life: 1})
}

func TestHearATokenOfTheSameEpoch(t *testing.T) {
	c, r := newCell(t), newRiser(t, 5)
	n := booted(t, house(), 1, c, 0)
	heard(t, n, token(at(5, 3), 3, 0, 1), r)
	writes := c.Writes()
	for _, hop := range []int64{3, 2, 0} {
		unheard(t, "a hop that it was at", n, token(at(5, 3), hop, 0, 1), r)
	}
	for _, hop := range []int64{4, 9, api.MaxHop - 1} {
		frames, events := heard(t, n, token(at(5, 3), hop, 0, 1), r)
		same(t, "a later hop", fmt.Sprint(len(frames), frames[0].Ring.Hop, events), fmt.Sprint(1, hop+1, []api.Event{}))
		unheard(t, "that one again", n, token(at(5, 3), hop, 0, 1), r)
	}
	if c.Writes() != writes {
		t.Error("saved anew, of the same epoch")
	}
}

func TestHearATokenOfAnotherEpoch(t *testing.T) {
	c, r := newCell(t), newRiser(t, 5)
	n := booted(t, house(), 1, c, 0)
	heard(t, n, token(at(5, 3), 30, 0, 1), r)
	for _, e := range []api.Epoch{at(5, 2), at(5, 0), at(4, 15), at(1, 3)} {
		unheard(t, "an elder epoch", n, token(e, 99, 0, 1), r)
	}
	writes := c.Writes()
	frames, events := heard(t, n, token(at(5, 4), 0, 1, 2), r)
	same(t, "of that count, a later founder's", fmt.Sprint(len(frames), frames[0].Ring.Hop, events), fmt.Sprint(1, 1, []api.Event{join(at(5, 4))}))
	// A count that is saved already is not saved again.
	if c.Writes() != writes {
		t.Error("saved anew, of the same count")
	}
	unheard(t, "the first one's again", n, token(at(5, 3), 99, 0, 1), r)
	_, events = heard(t, n, token(at(6, 0), 0, 1, 2), r)
	same(t, "a later count", events, []api.Event{join(at(6, 0))})
	same(t, "its record", kept(t, c), store.Record{Count: 6, Life: 1})
	_, events = heard(t, n, token(at(api.MaxCount, 15), 0, 1, 2), r)
	same(t, "the last one", events, []api.Event{join(at(api.MaxCount, 15))})
	same(t, "its record", kept(t, c), store.Record{Count: api.MaxCount, Life: 1})
}

func TestHearATokenOfOthers(t *testing.T) {
	n, r := fresh(t), newRiser(t, 5)
	unheard(t, "not among its members", n, token(at(5, 0), 3, 0, 2), r)
	heard(t, n, token(at(5, 0), 3, 0, 1), r)
	unheard(t, "not among its members", n, token(at(5, 0), 4, 0, 2), r)
	unheard(t, "not among its members", n, token(at(6, 0), 4, 0, 2), r)
	heard(t, n, token(at(5, 0), 4, 0, 1), r)
}

// TestHearATokenFromAnybody has it not ask who sent it.
func TestHearATokenFromAnybody(t *testing.T) {
	for _, from := range []int{0, 1, 2, 9, 15} {
		n, r := fresh(t), newRiser(t, 5)
		f := token(at(5, 0), 3, 0, 1)
		f.From = from
		heard(t, n, f, r)
	}
}

// TestMembersAreTheLastTokens has each token tell who is in the epoch.
func TestMembersAreTheLastTokens(t *testing.T) {
	n, r := fresh(t), newRiser(t, 5)
	for hop, members := range [][]int{{0, 1}, {1}, {0, 1, 2}, {1, 2, 15}, {1, 2}} {
		heard(t, n, tokenOf(at(5, 0), int64(hop), members), r)
	}
	unheard(t, "an elder hop", n, tokenOf(at(5, 0), 2, []int{0, 1}), r)
}

// TestATokenGoesToTheNext has each of several rings go on to who comes behind it.
func TestATokenGoesToTheNext(t *testing.T) {
	for _, x := range []struct {
		members []int
		next    int
	}{{[]int{1}, 1}, {[]int{0, 1}, 0}, {[]int{1, 2}, 2}, {[]int{0, 1, 2}, 2}, {[]int{0, 1, 15}, 15}, {[]int{1, 15}, 15}} {
		n, r := fresh(t), newRiser(t, 5)
		frames, _ := heard(t, n, tokenOf(at(5, 0), 3, x.members), r)
		same(t, "what it sends on", frames, []api.Frame{{Kind: api.Token, From: 1, To: x.next, Ring: api.Ring{Epoch: at(5, 0), Hop: 4, Members: x.members}}})
	}
}

func TestATokenAtTheLastHop(t *testing.T) {
	n, r := fresh(t), newRiser(t, 5, call(3, api.Up), call(2, api.Up))
	up := latch(3, api.Up, 1)
	frames, events := heard(t, n, token(at(5, 0), api.MaxHop, 0, 1, open(latch(2, api.Up, 1), of(0, 1)), awarded(up, 1)), r)
	same(t, "what it sends on", frames, []api.Frame{})
	// All else is done as ever.
	same(t, "what it did", events, []api.Event{join(at(5, 0)), award(0, latch(2, api.Up, 1), at(5, 0)), claim(up, at(5, 0))})
	same(t, "Claims", n.Claims(), []api.Latch{up})
	unheard(t, "no hop behind it", n, token(at(5, 0), api.MaxHop, 0, 1), r)
	frames, _ = heard(t, n, token(at(6, 0), api.MaxHop-1, 0, 1), r)
	same(t, "the hop ahead of it", frames[0].Ring.Hop, int64(api.MaxHop))
}

func TestHearATokenWhileOut(t *testing.T) {
	n, r := outNode(t)
	for _, f := range []api.Frame{token(at(5, 2), 99, 1, 2), token(at(6, 0), 0, 1, 2), token(at(api.MaxCount, 0), 0, 0, 1)} {
		unheard(t, "while it is out", n, f, r)
	}
	heard(t, n, beat(0, 7, 8, false), r)
	same(t, "a beat, while it is out", n.Alive(), []int{0})
	until(t, n, r, func() bool { return !n.Out() })
	heard(t, n, token(at(5, 2), 99, 1, 2), r)
}

// Tokens: what is saved

func TestHearATokenWhosePowerGoes(t *testing.T) {
	for k := 1; k <= puts+1; k++ {
		n, c, r := busy(t)
		c.Arm(k)
		lit := r.Lit()
		frames, events := n.Hear(token(at(6, 0), 0, 1, 2, awarded(latch(3, api.Up, 1), 1)), r)
		if k > puts {
			same(t, "the power not gone", n.Epoch(), at(6, 0))
			continue
		}
		same(t, fmt.Sprint("the power gone at byte ", k), fmt.Sprint(frames, events), fmt.Sprint([]api.Frame{}, []api.Event{{Kind: api.Close, Car: 1, Floor: 2}}))
		isDown(t, "the power gone", n, r, 8, false, 1)
		same(t, "what is lit", r.Lit(), lit)
		same(t, "its record", kept(t, c), store.Record{Count: 5, Life: 1})
		c.Back()
		m := booted(t, house(), 1, c, 8)
		unheard(t, "one that came back", m, token(at(5, 9), 99, 1, 2), r)
		heard(t, m, token(at(6, 0), 0, 1, 2), r)
	}
}

func TestHearATokenWhosePowerGoesWithItsDoorClosed(t *testing.T) {
	c, r := newCell(t), newRiser(t, 5)
	n := booted(t, house(), 1, c, 5)
	c.Arm(3)
	frames, events := n.Hear(token(at(6, 0), 0, 1, 2), r)
	same(t, "the power gone", fmt.Sprint(frames, events), "[] []")
	isDown(t, "the power gone", n, r, 5, true, 1)
}

// TestHearWhatIsNotSaved has a cell that is armed stay so, where there is nothing to save.
func TestHearWhatIsNotSaved(t *testing.T) {
	n, c, r := busy(t)
	c.Arm(1)
	heard(t, n, beat(2, 6, 99, false), r)
	unheard(t, "an elder epoch", n, token(at(4, 9), 99, 1, 2), r)
	unheard(t, "the same hop", n, token(at(5, 2), 7, 1, 2), r)
	heard(t, n, token(at(5, 2), 8, 1, 2), r)
	heard(t, n, token(at(5, 3), 0, 1, 2), r)
	if n.Down() || c.Down() {
		t.Error("down, with nothing saved")
	}
}

// Tokens: what is on them

// ridden is in how many ticks house's car that stands at pos goes up to a floor, with no stop between.
func ridden(pos, floor int) int {
	return 4*floor - pos + 1
}

// TestBids has a bid put on each call for which it has none yet: those that are new, those of others, but not those that are awarded.
func TestBids(t *testing.T) {
	n := booted(t, house(), 1, newCell(t), 4)
	r := newRiser(t, 5, call(1, api.Up), call(2, api.Up), call(3, api.Up), call(3, api.Down), call(4, api.Down))
	frames, events := heard(t, n, tokenOf(at(5, 0), 3, []int{0, 1, 2},
		open(latch(2, api.Up, 1), of(2, 3)),
		awarded(latch(3, api.Down, 1), 2, of(0, 5), of(2, 1)),
		open(latch(3, api.Up, 1), of(1, 999)),
	), r)
	same(t, "what it sends on", frames, []api.Frame{{Kind: api.Token, From: 1, To: 2, Ring: api.Ring{Epoch: at(5, 0), Hop: 4, Members: []int{0, 1, 2}, Entries: []api.Entry{
		open(latch(1, api.Up, 1), of(1, 1)),
		open(latch(2, api.Up, 1), of(1, ridden(4, 2)), of(2, 3)),
		awarded(latch(3, api.Down, 1), 2, of(0, 5), of(2, 1)),
		open(latch(3, api.Up, 1), of(1, 999)),
		open(latch(4, api.Down, 1), of(1, ridden(4, 4))),
	}}}})
	same(t, "what it did", events, []api.Event{join(at(5, 0))})
}

// TestBidsCountItsStops has car calls, and claims of that epoch, make a bid greater by what each stop takes: its door's two ticks, and the one that opens it.
func TestBidsCountItsStops(t *testing.T) {
	bidFor := func(t *testing.T, frames []api.Frame) int {
		t.Helper()
		for _, e := range frames[0].Ring.Entries {
			if e.Latch.Call == call(4, api.Down) {
				return e.Bids[0].Ticks
			}
		}
		t.Fatal("no entry")
		return 0
	}
	const stop = 3
	two := awarded(latch(2, api.Up, 1), 1)
	r := newRiser(t, 5, call(2, api.Up))
	n := fresh(t)
	n.Press(1)
	// What the token has just brought is no stop of its yet.
	heard(t, n, token(at(5, 0), 3, 1, 2, two), r)
	r.Press(call(4, api.Down))
	frames, _ := heard(t, n, token(at(5, 0), 4, 1, 2, two), r)
	same(t, "with a car call and a claim", bidFor(t, frames), ridden(0, 4)+2*stop)

	n = fresh(t)
	n.Press(1)
	frames, _ = heard(t, n, token(at(5, 0), 3, 1, 2, two), r)
	same(t, "with a car call, and what is claimed just now", bidFor(t, frames), ridden(0, 4)+stop)
	// What it claimed in another epoch is dropped ahead of that.
	frames, _ = heard(t, n, token(at(6, 0), 0, 1, 2), r)
	same(t, "with a claim that is dropped", bidFor(t, frames), ridden(0, 4)+stop)
	same(t, "Claims", n.Claims(), []api.Latch{})
}

// TestBidsCountAClaimThatIsNotLit has a claim be a stop till a tick drops it.
func TestBidsCountAClaimThatIsNotLit(t *testing.T) {
	n, r := fresh(t), newRiser(t, 5, call(2, api.Up))
	heard(t, n, token(at(5, 0), 3, 1, 2, awarded(latch(2, api.Up, 1), 1)), r)
	r.Clear(latch(2, api.Up, 1))
	r.Press(call(4, api.Down))
	frames, _ := heard(t, n, token(at(5, 0), 4, 1, 2), r)
	same(t, "the bid", frames[0].Ring.Entries, []api.Entry{open(latch(4, api.Down, 1), of(1, ridden(0, 4)+3))})
	same(t, "Claims", n.Claims(), []api.Latch{})
}

// TestBidsOfCallsThatMayNotBe has hall buttons of a greater house be bid for as what takes for ever.
func TestBidsOfCallsThatMayNotBe(t *testing.T) {
	n, r := fresh(t), newRiser(t, 64, call(4, api.Up), call(5, api.Down), call(63, api.Down))
	frames, events := heard(t, n, tokenOf(at(5, 0), 3, []int{1}), r)
	want := api.Ring{Epoch: at(5, 0), Hop: 4, Members: []int{1}}
	wantEvents, awards := []api.Event{join(at(5, 0))}, []api.Event{}
	for _, c := range []api.Call{call(4, api.Up), call(5, api.Down), call(63, api.Down)} {
		l := api.Latch{Call: c, Gen: 1}
		want.Entries = append(want.Entries, awarded(l, 1, of(1, api.MaxTicks)))
		awards = append(awards, award(1, l, at(5, 0)))
	}
	wantEvents = append(wantEvents, awards...)
	for _, e := range awards {
		wantEvents = append(wantEvents, claim(e.Latch, at(5, 0)))
	}
	same(t, "what it sends on", frames, []api.Frame{{Kind: api.Token, From: 1, To: 1, Ring: want}})
	same(t, "what it did", events, wantEvents)
	ticked(t, "with claims that may not be", n, r, false)
	same(t, "Claims", len(n.Claims()), 3)
}

func TestPurge(t *testing.T) {
	n := fresh(t)
	r := newRiser(t, 5, call(1, api.Up), call(2, api.Up), call(3, api.Up))
	r.Clear(latch(2, api.Up, 1))
	r.Clear(latch(3, api.Up, 1))
	r.Press(call(3, api.Up))
	frames, events := heard(t, n, token(at(5, 0), 3, 0, 1,
		awarded(latch(1, api.Up, 1), 0),
		awarded(latch(2, api.Up, 1), 1, of(0, 7)),
		awarded(latch(3, api.Up, 1), 1, of(0, 7)),
		open(latch(63, api.Down, 1), of(0, 7)),
	), r)
	same(t, "what it sends on", frames[0].Ring.Entries, []api.Entry{awarded(latch(1, api.Up, 1), 0), open(latch(3, api.Up, 2), of(1, ridden(0, 3)))})
	same(t, "what it did", events, []api.Event{join(at(5, 0))})
}

// TestAwards has each entry for which it bids last be awarded to the least, and told in order, ahead of the claims.
func TestAwards(t *testing.T) {
	n := booted(t, house(), 1, newCell(t), 4)
	r := newRiser(t, 5, call(1, api.Up), call(2, api.Down), call(2, api.Up), call(3, api.Up), call(4, api.Down))
	e := at(5, 0)
	frames, events := heard(t, n, tokenOf(e, 3, []int{0, 1, 2},
		open(latch(1, api.Up, 1), of(0, 2), of(2, 3)),
		awarded(latch(2, api.Down, 1), 1, of(0, 5), of(1, 1), of(2, 5)),
		open(latch(2, api.Up, 1), of(0, 5), of(2, 4)),
		open(latch(3, api.Up, 1), of(2, 5)),
		open(latch(4, api.Down, 1), of(0, 99), of(2, 13)),
	), r)
	same(t, "what it sends on", frames[0].Ring.Entries, []api.Entry{
		awarded(latch(1, api.Up, 1), 1, of(0, 2), of(1, 1), of(2, 3)),
		awarded(latch(2, api.Down, 1), 1, of(0, 5), of(1, 1), of(2, 5)),
		awarded(latch(2, api.Up, 1), 2, of(0, 5), of(1, 5), of(2, 4)),
		open(latch(3, api.Up, 1), of(1, 9), of(2, 5)),
		awarded(latch(4, api.Down, 1), 1, of(0, 99), of(1, 13), of(2, 13)),
	})
	same(t, "what it did", events, []api.Event{
		join(e), award(1, latch(1, api.Up, 1), e), award(2, latch(2, api.Up, 1), e), award(1, latch(4, api.Down, 1), e),
		claim(latch(1, api.Up, 1), e), claim(latch(2, api.Down, 1), e), claim(latch(4, api.Down, 1), e),
	})
	same(t, "Claims", n.Claims(), []api.Latch{latch(1, api.Up, 1), latch(2, api.Down, 1), latch(4, api.Down, 1)})
}

// TestAwardsAreToldOnce has what is awarded already, to it or to others, not be told anew.
func TestAwardsAreToldOnce(t *testing.T) {
	n, r := fresh(t), newRiser(t, 5, call(1, api.Up), call(2, api.Up))
	e := at(5, 0)
	f := token(e, 3, 0, 1, open(latch(1, api.Up, 1), of(0, 99)), open(latch(2, api.Up, 1), of(0, 1)))
	frames, events := heard(t, n, f, r)
	same(t, "what it did", events, []api.Event{join(e), award(1, latch(1, api.Up, 1), e), award(0, latch(2, api.Up, 1), e), claim(latch(1, api.Up, 1), e)})
	on := frames[0]
	on.From, on.To, on.Ring.Hop = 0, 1, 5
	_, events = heard(t, n, on, r)
	same(t, "what it did then", events, []api.Event{})
	same(t, "Claims", n.Claims(), []api.Latch{latch(1, api.Up, 1)})
}

// TestClaimsAreTheTokens has it claim what the token awards it, and nothing else, and tell what is new.
func TestClaimsAreTheTokens(t *testing.T) {
	n, r := fresh(t), newRiser(t, 5, call(1, api.Up), call(2, api.Up), call(3, api.Up))
	e := at(5, 0)
	one, two, three := latch(1, api.Up, 1), latch(2, api.Up, 1), latch(3, api.Up, 1)
	for hop, x := range []struct {
		entries []api.Entry
		claims  []api.Latch
		events  []api.Event
	}{
		{[]api.Entry{awarded(one, 0), awarded(two, 1), awarded(three, 2)}, []api.Latch{two}, []api.Event{join(e), claim(two, e)}},
		{[]api.Entry{awarded(one, 1), awarded(two, 1), awarded(three, 1)}, []api.Latch{one, two, three}, []api.Event{claim(one, e), claim(three, e)}},
		{[]api.Entry{awarded(one, 0), awarded(two, 1), awarded(three, 0)}, []api.Latch{two}, []api.Event{}},
		{[]api.Entry{awarded(one, 2), awarded(two, 0), awarded(three, 1)}, []api.Latch{three}, []api.Event{claim(three, e)}},
		{[]api.Entry{awarded(one, 2), awarded(two, 2), awarded(three, 2)}, []api.Latch{}, []api.Event{}},
	} {
		_, events := heard(t, n, tokenOf(e, int64(hop), []int{0, 1, 2}, x.entries...), r)
		same(t, fmt.Sprint("what it did at hop ", hop), events, x.events)
		same(t, fmt.Sprint("Claims at hop ", hop), n.Claims(), x.claims)
	}
}

// TestClaimsOfANewEpoch has a claim be dropped with its epoch, and told anew, where the new one awards it to it again.
func TestClaimsOfANewEpoch(t *testing.T) {
	n, r := fresh(t), newRiser(t, 5, call(1, api.Up), call(2, api.Up))
	one, two := latch(1, api.Up, 1), latch(2, api.Up, 1)
	heard(t, n, tokenOf(at(5, 0), 3, []int{0, 1}, awarded(one, 1), awarded(two, 1)), r)
	_, events := heard(t, n, tokenOf(at(5, 1), 0, []int{0, 1}, awarded(one, 1), awarded(two, 0)), r)
	same(t, "what it did", events, []api.Event{join(at(5, 1)), claim(one, at(5, 1))})
	same(t, "Claims", n.Claims(), []api.Latch{one})
}

// Memory

// wrap is l with canaries ahead of it and behind it in its memory, all of it told by the second answer.
func wrap[T any](l []T, canary T) (part, all []T) {
	all = slices.Concat([]T{canary, canary}, l, []T{canary, canary, canary})
	return all[2 : 2+len(l)], all
}

// given is a frame that is handed in, with all of the memory that its lists stand in.
type given struct {
	frame   api.Frame
	members []int
	entries []api.Entry
	bids    [][]api.Bid
}

// give wraps a frame as f. The canaries are such that one who reads them takes them for what belongs there.
func give(f api.Frame) given {
	g := given{frame: f}
	g.frame.Ring.Members, g.members = wrap(f.Ring.Members, 15)
	g.frame.Ring.Entries, g.entries = wrap(f.Ring.Entries, awarded(latch(4, api.Down, 1), 1))
	for i, e := range g.frame.Ring.Entries {
		part, all := wrap(e.Bids, of(1, 0))
		g.frame.Ring.Entries[i].Bids = part
		g.bids = append(g.bids, all)
	}
	return g
}

func (g given) memory() string {
	return fmt.Sprint(g.frame, g.members, g.entries, g.bids)
}

// spoil writes into all that was handed in.
func (g given) spoil() {
	for _, b := range g.bids {
		spoil(b, of(13, 13))
	}
	spoil(g.members, 13)
	spoil(g.entries, awarded(latch(13, 13, 13), 13))
}

func TestHearLeavesWhatItIsHanded(t *testing.T) {
	all := []api.Call{call(1, api.Up), call(2, api.Down), call(2, api.Up), call(3, api.Up), call(4, api.Down)}
	f := tokenOf(at(5, 0), 3, []int{0, 1, 2},
		open(latch(1, api.Up, 1), of(0, 2), of(2, 3)),
		awarded(latch(2, api.Down, 1), 1, of(0, 5)),
		open(latch(2, api.Up, 7), of(0, 5)),
		open(latch(3, api.Up, 1), of(0, 5), of(2, 4)),
	)
	n, r := fresh(t), newRiser(t, 5, all...)
	wantFrames, wantEvents := n.Hear(f, r)
	want := fmt.Sprint(wantFrames, wantEvents, ask(n))
	n = fresh(t)
	g := give(f)
	was := g.memory()
	frames, events := n.Hear(g.frame, r)
	same(t, "what it answers", fmt.Sprint(frames, events, ask(n)), want)
	same(t, "what it was handed", g.memory(), was)
	same(t, "what is lit", len(r.Lit()), len(all))
	g.spoil()
	same(t, "what it answered, behind writing into what it was handed", fmt.Sprint(frames, events, ask(n)), want)
	told := ask(n)
	spoilFrames(frames)
	spoil(events, api.Event{Kind: 14})
	same(t, "behind writing into what it answered", ask(n), told)
	frames, _ = heard(t, n, tokenOf(at(5, 0), 4, []int{0, 1, 2}), r)
	text := fmt.Sprint(frames)
	spoilAsked(n)
	heard(t, n, tokenOf(at(5, 0), 9, []int{1, 2}, awarded(latch(1, api.Up, 1), 1)), r)
	n.Cut()
	same(t, "a frame, behind others", fmt.Sprint(frames), text)
}

// TestHearOfAFrameThatIsHandedAgain has the frame that it sends be handed in as it is.
func TestHearOfAFrameThatIsHandedAgain(t *testing.T) {
	n, r := fresh(t), newRiser(t, 5, call(1, api.Up))
	frames, _ := heard(t, n, tokenOf(at(5, 0), 0, []int{1}), r)
	for hop := int64(1); hop < 6; hop++ {
		same(t, "its hop", frames[0].Ring.Hop, hop)
		text, last := fmt.Sprint(frames[0]), frames[0]
		frames, _ = heard(t, n, frames[0], r)
		same(t, "what it was handed", fmt.Sprint(last), text)
	}
}

// TestHearWithOtherButtons has it ask the buttons that it is handed, and keep none.
func TestHearWithOtherButtons(t *testing.T) {
	n := fresh(t)
	frames, _ := heard(t, n, token(at(5, 0), 0, 0, 1), newRiser(t, 5, call(1, api.Up)))
	same(t, "with the one", len(frames[0].Ring.Entries), 1)
	frames, _ = heard(t, n, token(at(5, 0), 1, 0, 1), newRiser(t, 2))
	same(t, "with the other one", len(frames[0].Ring.Entries), 0)
	same(t, "what it is", ask(n), asked{Life: 1, Epoch: at(5, 0), Members: []int{0, 1}, Car: car.Car{}})
}

// TestHearOfEndsOfInts has no number of a frame do harm.
func TestHearOfEndsOfInts(t *testing.T) {
	n, r := fresh(t), newRiser(t, 5, call(1, api.Up))
	for _, x := range beyond() {
		for _, y := range []int{math.MinInt, -1, 0, 1, 2, math.MaxInt} {
			n.Hear(api.Frame{Kind: y, From: x, To: 1, Life: int64(x), Seen: int64(y)}, r)
			n.Hear(api.Frame{Kind: api.Beat, From: y, To: 1, Life: int64(x), Seen: int64(x)}, r)
			n.Hear(api.Frame{Kind: api.Token, From: y, To: 1, Ring: api.Ring{Epoch: api.Epoch{Count: int64(x), Founder: y}, Hop: int64(x), Members: []int{x, y, 1}}}, r)
			n.Hear(api.Frame{Kind: api.Token, To: 1, Ring: api.Ring{Epoch: at(1, 0), Hop: int64(x), Members: []int{1}, Entries: []api.Entry{{Latch: latch(x, y, x), Award: y, Bids: []api.Bid{of(x, y)}}}}}, r)
		}
	}
	if n.Down() || !slices.Contains(n.Members(), 1) && n.Epoch() != (api.Epoch{}) {
		t.Error(ask(n))
	}
}
