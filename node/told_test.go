package node_test

import (
	"slices"

	"paternoster/ahead"
	"paternoster/api"
	"paternoster/car"
	"paternoster/eta"
	"paternoster/frame"
	"paternoster/riser"
	"paternoster/store"
)

// memory is a plain telling of a cell with a store's record.
type memory struct {
	record store.Record
	armed  int // the how manieth Put finds the power gone; 0: none
	down   bool
}

// save is whether it was kept: the power goes at one of a Save's Puts, or behind them.
func (m *memory) save(r store.Record) bool {
	if m.down {
		return false
	}
	if m.armed > 0 && m.armed <= puts {
		m.armed, m.down = 0, true
		return false
	}
	m.armed = max(m.armed-puts, 0)
	m.record = r
	return true
}

// said is a beat that was heard, at the end of so many ticks.
type said struct {
	beat api.Frame
	at   int
}

// told is a plain telling of the chapter: a node with all that it heard, and when things were.
type told struct {
	house api.House
	id    int
	car   car.Car
	life  int64
	down  bool

	cell    *memory
	floor   int64
	epoch   api.Epoch
	hop     int64
	members []int
	claims  []api.Latch
	pressed [api.MaxFloors]bool
	out     bool
	said    [api.MaxCars][]said
	now     int
	token   int // the tick at which it had a token
	founded int // the tick at which it founded a ring
}

// tellNew is what New of a house, a car and a pos that may be makes; nil, if the power is gone, or goes.
func tellNew(h api.House, id int, m *memory, pos int) *told {
	r := store.Record{Count: m.record.Count, Life: m.record.Life + 1}
	if !m.save(r) {
		return nil
	}
	return &told{house: h, id: id, car: standing(pos, pos%h.Speed != 0), life: r.Life, cell: m, floor: r.Count}
}

// asked is all that it tells of itself.
func (m *told) asked() asked {
	if m.down {
		return asked{Down: true, Car: m.car, Life: m.life}
	}
	return asked{Car: m.car, Life: m.life, Epoch: m.epoch, Members: m.members, Claims: m.claims, Calls: m.calls(), Out: m.out, Alive: m.alive()}
}

func (m *told) calls() []int {
	var l []int
	for floor, is := range m.pressed {
		if is {
			l = append(l, floor)
		}
	}
	return l
}

// last is the last beat of a car that counts: none that is of an elder life than one ahead of it; and the greatest count seen in those that do.
func (m *told) last(car int) (said, bool, int64) {
	var last said
	is, seen := false, int64(0)
	for _, x := range m.said[car] {
		if !is || x.beat.Life >= last.beat.Life {
			last, is = x, true
			seen = max(seen, x.beat.Seen)
		}
	}
	return last, is, seen
}

func (m *told) alive() []int {
	var l []int
	for car := range api.MaxCars {
		if x, is, _ := m.last(car); is && !x.beat.Out && m.now-x.at <= api.Hold {
			l = append(l, car)
		}
	}
	return l
}

func (m *told) seen() int64 {
	n := max(m.cell.record.Count, m.epoch.Count)
	for car := range api.MaxCars {
		_, _, seen := m.last(car)
		n = max(n, seen)
	}
	return n
}

func (m *told) event(kind int) api.Event {
	return api.Event{Kind: kind, Car: m.id}
}

func (m *told) press(floor int) bool {
	if m.down || floor < 0 || floor >= m.house.Floors || m.pressed[floor] {
		return false
	}
	m.pressed[floor] = true
	return true
}

func (m *told) cut() []api.Event {
	if m.down {
		return nil
	}
	m.down = true
	pos, wasOpen := m.car.State.Pos, m.car.State.Door > 0
	m.car = standing(pos, pos%m.house.Speed != 0)
	if wasOpen {
		return []api.Event{{Kind: api.Close, Car: m.id, Floor: pos / m.house.Speed}}
	}
	return nil
}

// tick is the five steps, one behind the other.
func (m *told) tick(r *riser.Riser, obstructed bool) (frames []api.Frame, events []api.Event) {
	if m.down {
		return nil, nil
	}
	events = m.first(r, obstructed)
	if !m.out && m.car.State.Door > 0 && m.car.Held > 3*m.house.Dwell {
		m.out, m.claims = true, nil
		events = append(events, m.event(api.Leave))
	}
	if m.out && m.car.State.Door == 0 {
		m.out = false
		events = append(events, m.event(api.Return))
	}
	m.now++
	for to := 0; to < m.house.Cars; to++ {
		if to != m.id {
			frames = append(frames, api.Frame{Kind: api.Beat, From: m.id, To: to, Life: m.life, Seen: m.seen(), Out: m.out})
		}
	}
	if !m.should() || m.seen() >= api.MaxCount {
		return frames, events
	}
	e := api.Epoch{Count: m.seen() + 1, Founder: m.id}
	if !m.cell.save(store.Record{Count: e.Count, Life: m.life}) {
		return frames, append(events, m.cut()...)
	}
	m.epoch, m.hop, m.claims, m.founded = e, 0, nil, m.now
	told := m.event(api.Found)
	told.Epoch = e
	events = append(events, told)
	tokens, more := m.hold(api.Ring{Epoch: e, Members: m.would()}, r)
	return append(frames, tokens...), append(events, more...)
}

// first is the first step.
func (m *told) first(r *riser.Riser, obstructed bool) []api.Event {
	var lit []api.Latch
	for _, l := range m.claims {
		if slices.Contains(r.Lit(), l) {
			lit = append(lit, l)
		}
	}
	m.claims = lit
	next, deed := car.Tick(m.house, m.car, ahead.Of(m.calls(), m.claims), obstructed)
	was := m.car.State
	m.car = next
	e := api.Event{Car: m.id, Floor: next.State.Pos / m.house.Speed}
	switch {
	case was.Door > 0 && next.State.Door == 0:
		e.Kind = api.Close
		return []api.Event{e}
	case was.Pos != next.State.Pos:
		e.Kind, e.Dir = api.Move, next.State.Pos-was.Pos
		return []api.Event{e}
	case was.Door == 0 && next.State.Door > 0:
		e.Kind, e.Dir = api.Open, deed.Lantern
	default:
		return nil
	}
	events := []api.Event{e}
	m.pressed[e.Floor] = false
	for i, l := range m.claims {
		if l.Call == call(e.Floor, deed.Lantern) {
			r.Clear(l)
			m.claims = slices.Delete(slices.Clone(m.claims), i, i+1)
			return append(events, api.Event{Kind: api.Clear, Car: m.id, Latch: l, Epoch: m.epoch, Floor: e.Floor})
		}
	}
	return events
}

// would is who would be in a ring of its own.
func (m *told) would() []int {
	l := m.alive()
	if !slices.Contains(l, m.id) {
		l = append(l, m.id)
	}
	slices.Sort(l)
	return l
}

func (m *told) should() bool {
	patience := 4*m.house.Cars + 8
	if m.out || m.would()[0] != m.id || m.now-m.founded <= patience {
		return false
	}
	return m.epoch.Count == 0 || !slices.Equal(m.would(), m.members) || m.now-m.token > patience
}

func (m *told) hear(f api.Frame, r *riser.Riser) ([]api.Frame, []api.Event) {
	if m.down || frame.Valid(f) != nil || f.To != m.id {
		return nil, nil
	}
	if f.Kind == api.Beat {
		if f.From != m.id {
			m.said[f.From] = append(m.said[f.From], said{f, m.now})
		}
		return nil, nil
	}
	e := f.Ring.Epoch
	isNew := e.Count > m.epoch.Count || e.Count == m.epoch.Count && e.Founder > m.epoch.Founder
	if m.out || !slices.Contains(f.Ring.Members, m.id) || e.Count <= m.floor || !isNew && (e != m.epoch || f.Ring.Hop <= m.hop) {
		return nil, nil
	}
	var events []api.Event
	if isNew {
		if e.Count > m.cell.record.Count && !m.cell.save(store.Record{Count: e.Count, Life: m.life}) {
			return nil, m.cut()
		}
		m.claims = nil
		told := m.event(api.Join)
		told.Epoch = e
		events = []api.Event{told}
	}
	m.epoch, m.hop = e, f.Ring.Hop
	frames, more := m.hold(f.Ring, r)
	return frames, append(events, more...)
}

// hold is what a node does that holds a ring, told entry by entry.
func (m *told) hold(ring api.Ring, r *riser.Riser) ([]api.Frame, []api.Event) {
	stops := ahead.Of(m.calls(), m.claims)
	var entries []api.Entry
	var awards, claims []api.Event
	var mine []api.Latch
	for _, l := range r.Lit() {
		e := api.Entry{Latch: l, Award: -1}
		for _, x := range ring.Entries {
			if x.Latch == l {
				e = x
			}
		}
		if e.Award == -1 {
			e.Bids = m.withBid(e.Bids, eta.Of(m.house, m.car, stops, l.Call))
			if best, all := least(ring.Members, e.Bids); all {
				e.Award = best
				awards = append(awards, api.Event{Kind: api.Award, Car: best, Latch: l, Epoch: ring.Epoch})
			}
		}
		if e.Award == m.id {
			mine = append(mine, l)
			if !slices.Contains(m.claims, l) {
				claims = append(claims, api.Event{Kind: api.Claim, Car: m.id, Latch: l, Epoch: ring.Epoch})
			}
		}
		entries = append(entries, e)
	}
	m.claims, m.token, m.members = mine, m.now, slices.Clone(ring.Members)
	if ring.Hop == api.MaxHop {
		return nil, append(awards, claims...)
	}
	next := m.members[(slices.Index(m.members, m.id)+1)%len(m.members)]
	on := api.Ring{Epoch: ring.Epoch, Hop: ring.Hop + 1, Members: m.members, Entries: entries}
	return []api.Frame{frame.Clone(api.Frame{Kind: api.Token, From: m.id, To: next, Ring: on})}, append(awards, claims...)
}

// withBid is bids with its own of so many ticks, if it has none there.
func (m *told) withBid(bids []api.Bid, ticks int) []api.Bid {
	var l []api.Bid
	for car := range api.MaxCars {
		for _, b := range bids {
			if b.Car == car {
				l = append(l, b)
			}
		}
		if car == m.id && (len(l) == 0 || l[len(l)-1].Car != m.id) {
			l = append(l, of(m.id, ticks))
		}
	}
	return l
}

// least is the car of the least bid, and whether all of members have bid.
func least(members []int, bids []api.Bid) (int, bool) {
	best, n := bids[0], 0
	for _, b := range bids {
		if b.Ticks < best.Ticks || b.Ticks == best.Ticks && b.Car < best.Car {
			best = b
		}
		n++
	}
	return best.Car, n == len(members)
}
