package node

import (
	"slices"

	"paternoster/ahead"
	"paternoster/api"
	"paternoster/car"
	"paternoster/door"
	"paternoster/epoch"
	"paternoster/found"
	"paternoster/ledger"
	"paternoster/riser"
)

// Tick is a tick of its car and of its clocks, its beats, and a ring, if it has to found one.
func (n *Node) Tick(r *riser.Riser, obstructed bool) ([]api.Frame, []api.Event) {
	if n.down {
		return nil, nil
	}
	events := n.ride(r, obstructed)
	events = append(events, n.withdraw()...)
	n.age()
	frames := n.beats()
	tokens, more := n.foundRing(r)
	return append(frames, tokens...), append(events, more...)
}

// ride is its car's tick.
func (n *Node) ride(r *riser.Riser, obstructed bool) []api.Event {
	n.claims = slices.DeleteFunc(n.claims, func(l api.Latch) bool { return !r.Is(l) })
	next, deed := car.Tick(n.house, n.car, n.stops(), obstructed)
	n.car = next
	return append(n.tell(deed), n.serve(r, deed)...)
}

// tell is the event of what the car did, if it did anything.
func (n *Node) tell(d car.Deed) []api.Event {
	var kind, dir int
	switch {
	case d.Closed:
		kind = api.Close
	case d.Moved != 0:
		kind, dir = api.Move, d.Moved
	case d.Opened:
		kind, dir = api.Open, d.Lantern
	default:
		return nil
	}
	return []api.Event{{Kind: kind, Car: n.id, Floor: d.Floor, Dir: dir}}
}

// serve takes out the stops that the car served, and puts out the button of the one that it claims.
func (n *Node) serve(r *riser.Riser, d car.Deed) []api.Event {
	n.pressed = slices.DeleteFunc(n.pressed, func(floor int) bool { return ahead.At(d.Stops, floor) })
	served := func(l api.Latch) bool { return ahead.Hall(d.Stops, l.Call.Floor, l.Call.Dir) }
	var events []api.Event
	for _, l := range n.claims {
		if served(l) {
			r.Clear(l)
			events = append(events, api.Event{Kind: api.Clear, Car: n.id, Latch: l, Epoch: n.Epoch(), Floor: d.Floor})
		}
	}
	n.claims = slices.DeleteFunc(n.claims, served)
	return events
}

// withdraw has it go out, if its door is stuck, and come back, when that is closed.
func (n *Node) withdraw() []api.Event {
	switch {
	case !n.out && door.Stuck(n.door(), n.house.Dwell):
		n.out, n.claims = true, nil
		return []api.Event{n.event(api.Leave)}
	case n.out && !door.Is(n.door()):
		n.out = false
		return []api.Event{n.event(api.Return)}
	}
	return nil
}

// age makes all that it heard, had and founded one tick older.
func (n *Node) age() {
	n.heard.Tick()
	n.token++
	n.founded++
}

// beats is what it tells of itself, to each other car.
func (n *Node) beats() []api.Frame {
	var frames []api.Frame
	for to := range n.house.Cars {
		if to != n.id {
			frames = append(frames, api.Frame{Kind: api.Beat, From: n.id, To: to, Life: n.life, Seen: n.seen(), Out: n.out})
		}
	}
	return frames
}

// foundRing founds a ring, if it has to, and if there is an epoch left.
func (n *Node) foundRing(r *riser.Riser) ([]api.Frame, []api.Event) {
	c := n.asCase()
	e, ok := epoch.Next(n.seen(), n.id)
	if !ok || !found.Should(c) {
		return nil, nil
	}
	// Saved ahead of all else: once it is sent, no later life may found it again.
	if !n.save(e.Count) {
		return nil, n.Cut()
	}
	n.gate.Found(e)
	n.claims = nil
	n.founded = 0
	told := n.event(api.Found)
	told.Epoch = e
	frames, events := n.hold(ledger.New(e, found.Members(c)...), r)
	return frames, append([]api.Event{told}, events...)
}

// asCase is what it knows, for the question whether it has to found a ring.
func (n *Node) asCase() found.Case {
	return found.Case{
		Car: n.id, Cars: n.house.Cars,
		Out: n.out, Any: !epoch.None(n.Epoch()),
		Alive: n.Alive(), Ring: n.members,
		Since: n.token, Found: n.founded,
	}
}
