package node

import (
	"slices"

	"paternoster/api"
	"paternoster/eta"
	"paternoster/frame"
	"paternoster/ledger"
	"paternoster/order"
	"paternoster/riser"
)

// Hear is f coming to it: a beat of another one is kept, a token that it takes is sent on.
func (n *Node) Hear(f api.Frame, r *riser.Riser) ([]api.Frame, []api.Event) {
	if n.down || frame.Valid(f) != nil || f.To != n.id {
		return nil, nil
	}
	if f.Kind == api.Token {
		return n.take(f, r)
	}
	if f.From != n.id {
		n.heard.Hear(f.From, f.Life, f.Seen, f.Out)
	}
	return nil, nil
}

// take takes the token f, if it is not out, and its gate lets it.
func (n *Node) take(f api.Frame, r *riser.Riser) ([]api.Frame, []api.Event) {
	if n.out || !n.gate.Would(n.id, f.To, f.Ring) {
		return nil, nil
	}
	var events []api.Event
	if e := f.Ring.Epoch; e != n.Epoch() {
		// Saved ahead of all else: once it bids there, no later life may take that epoch's tokens again.
		if e.Count > n.store.Record().Count && !n.save(e.Count) {
			return nil, n.Cut()
		}
		n.claims = nil
		told := n.event(api.Join)
		told.Epoch = e
		events = append(events, told)
	}
	n.gate.Take(n.id, f.To, f.Ring)
	frames, more := n.hold(f.Ring, r)
	return frames, append(events, more...)
}

// hold does with the ring that it has what is to be done, and sends it on.
func (n *Node) hold(ring api.Ring, r *riser.Riser) ([]api.Frame, []api.Event) {
	lit := r.Lit()
	ring = n.bid(ledger.Add(ledger.Purge(ring, lit), lit))
	ring, awards := ledger.Award(ring)
	var events []api.Event
	for _, a := range awards {
		events = append(events, api.Event{Kind: api.Award, Car: a.Award, Latch: a.Latch, Epoch: ring.Epoch})
	}
	events = append(events, n.claim(ring)...)
	n.members = ring.Members
	n.token = 0
	return n.pass(ring), events
}

// bid is ring with its bid for each call for which it has still to bid.
func (n *Node) bid(ring api.Ring) api.Ring {
	for _, c := range ledger.Wants(ring, n.id) {
		ticks := eta.Of(n.house, n.car, n.stops(), c)
		ring, _ = ledger.Bid(ring, api.Bid{Car: n.id, Ticks: ticks}, c)
	}
	return ring
}

// claim has it claim what ring awards it, and nothing else.
func (n *Node) claim(ring api.Ring) []api.Event {
	had := n.claims
	n.claims = ledger.Mine(ring, n.id)
	var events []api.Event
	for _, l := range n.claims {
		if !slices.Contains(had, l) {
			events = append(events, api.Event{Kind: api.Claim, Car: n.id, Latch: l, Epoch: ring.Epoch})
		}
	}
	return events
}

// pass is the token to the next one, if there is a hop left.
func (n *Node) pass(ring api.Ring) []api.Frame {
	next, is := order.Next(ring.Members, n.id)
	on, ok := ledger.Pass(ring)
	if !is || !ok {
		return nil
	}
	return []api.Frame{{Kind: api.Token, From: n.id, To: next, Ring: on}}
}
