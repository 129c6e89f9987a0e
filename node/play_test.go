package node_test

import (
	"fmt"
	"slices"
	"testing"

	"paternoster/api"
	"paternoster/cell"
	"paternoster/frame"
	"paternoster/node"
	"paternoster/riser"
)

// Plays: a house of nodes, whose frames are lost, copied, delayed and turned round, whose power goes within a write and elsewhere, held step by step against a plain telling of the chapter.

// dice makes the same numbers in each run.
type dice uint64

// roll is 0 to below n.
func (d *dice) roll(n int) int {
	*d = *d*6364136223846793005 + 1442695040888963407
	return int(uint64(*d) >> 33 % uint64(n))
}

// play is a house and the telling of it, side by side.
type play struct {
	t       *testing.T
	what    string
	dice    dice
	house   api.House
	riser   *riser.Riser
	lit     *riser.Riser // the telling's
	cells   []*cell.Cell
	mems    []*memory
	nodes   []*node.Node
	told    []*told
	blocked []bool
	net     []api.Frame
	events  []api.Event
	judge   judge
	forged  bool // whether frames are made up, too
	failed  bool
}

func newPlay(t *testing.T, h api.House, seed int, forged bool) *play {
	t.Helper()
	p := &play{t: t, what: fmt.Sprint("play ", seed, " of ", h), dice: dice(seed), house: h, forged: forged}
	p.riser, p.lit = newRiser(t, h.Floors), newRiser(t, h.Floors)
	p.blocked = make([]bool, h.Cars)
	p.judge = newJudge(h)
	for id := range h.Cars {
		p.cells = append(p.cells, newCell(t))
		p.mems = append(p.mems, &memory{})
		p.nodes = append(p.nodes, nil)
		p.told = append(p.told, nil)
		p.boot(id, p.dice.roll((h.Floors-1)*h.Speed+1))
	}
	return p
}

// hold holds an answer, and what the node is then, against the telling's.
func (p *play) hold(id int, act string, got, want string) {
	p.t.Helper()
	n, m := p.nodes[id], p.told[id]
	got += fmt.Sprintf(" %+v %v %v", ask(n), p.riser.Lit(), kept(p.t, p.cells[id]))
	want += fmt.Sprintf(" %+v %v %v", m.asked(), p.lit.Lit(), p.mems[id].record)
	if got != want {
		p.failed = true
		p.t.Errorf("%s: %s of %d: %s, not %s", p.what, act, id, got, want)
	}
}

// answered keeps what a node answered, holds it against the telling's, and writes into it then.
func (p *play) answered(id int, act string, frames []api.Frame, events []api.Event, wantFrames []api.Frame, wantEvents []api.Event) {
	p.t.Helper()
	for _, f := range frames {
		p.net = append(p.net, frame.Clone(f))
	}
	p.events = append(p.events, events...)
	if fault := p.judge.all(events); fault != "" && !p.forged {
		p.failed = true
		p.t.Errorf("%s: %s of %d: %v: %s", p.what, act, id, events, fault)
	}
	got := fmt.Sprint(frames, events)
	spoilFrames(frames)
	spoil(events, api.Event{Kind: 14})
	spoilAsked(p.nodes[id])
	p.hold(id, act, got, fmt.Sprint(wantFrames, wantEvents))
}

func (p *play) boot(id, pos int) {
	n, events, err := node.New(p.house, id, p.cells[id], pos)
	m := tellNew(p.house, id, p.mems[id], pos)
	if (n == nil) != (m == nil) || n == nil && (len(events) > 0 || err != api.ErrPower) {
		p.failed = true
		p.t.Errorf("%s: New of %d: %v, %v, %v", p.what, id, n, events, err)
		return
	}
	if n == nil {
		return
	}
	p.nodes[id], p.told[id] = n, m
	p.answered(id, "New", nil, events, nil, []api.Event{{Kind: api.Boot, Car: id}})
}

func (p *play) tick(id int) {
	frames, events := p.nodes[id].Tick(p.riser, p.blocked[id])
	wantFrames, wantEvents := p.told[id].tick(p.lit, p.blocked[id])
	p.answered(id, "Tick", frames, events, wantFrames, wantEvents)
}

// hand hands f to who it is for, or, where there is no such one, to somebody.
func (p *play) hand(f api.Frame) {
	id := f.To
	if id < 0 || id >= p.house.Cars {
		id = p.dice.roll(p.house.Cars)
	}
	g := give(frame.Clone(f))
	was := g.memory()
	frames, events := p.nodes[id].Hear(g.frame, p.riser)
	if g.memory() != was {
		p.failed = true
		p.t.Errorf("%s: Hear of %d: what was handed in became another one", p.what, id)
	}
	g.spoil()
	wantFrames, wantEvents := p.told[id].hear(f, p.lit)
	p.answered(id, fmt.Sprint("Hear ", f), frames, events, wantFrames, wantEvents)
}

// deliver hands on the frame at i.
func (p *play) deliver(i int) {
	f := p.net[i]
	p.net = slices.Delete(p.net, i, i+1)
	p.hand(f)
}

// round delivers most of what waits, and ticks who is up.
func (p *play) round() {
	for range len(p.net) {
		if len(p.net) > 0 && !p.failed {
			p.deliver(0)
		}
	}
	for id := range p.nodes {
		p.tick(id)
	}
}

// forge is a frame made up of one that was sent, or might have been.
func (p *play) forge() api.Frame {
	f := api.Frame{Kind: api.Beat, From: p.dice.roll(16), To: p.dice.roll(p.house.Cars), Life: int64(p.dice.roll(5)), Seen: int64(p.dice.roll(9))}
	if len(p.net) > 0 {
		f = frame.Clone(p.net[p.dice.roll(len(p.net))])
	}
	some := int64(p.dice.roll(6)) - 1
	switch p.dice.roll(10) {
	case 0:
		f.To = int(some)
	case 1:
		f.From = int(some)
	case 2:
		f.Kind = int(some)
	case 3:
		f.Life = some
	case 4:
		f.Seen += some
	case 5:
		f.Out = !f.Out
	case 6:
		f.Ring.Hop += some
	case 7:
		f.Ring.Epoch.Count += some
	case 8:
		f.Ring.Epoch.Founder = int(some)
	case 9:
		f.Ring.Entries = nil
	}
	return f
}

// act does something or other.
func (p *play) act() {
	id := p.dice.roll(p.house.Cars)
	switch p.dice.roll(40) {
	case 0, 1, 2, 3, 4, 5:
		p.tick(id)
	case 6, 7, 8, 9:
		if len(p.net) > 0 {
			p.deliver(p.dice.roll(len(p.net)))
		}
	case 10:
		if len(p.net) > 0 {
			i := p.dice.roll(len(p.net))
			p.net = slices.Delete(p.net, i, i+1)
		}
	case 11, 12:
		if len(p.net) > 0 {
			p.net = append(p.net, frame.Clone(p.net[p.dice.roll(len(p.net))]))
		}
	case 13, 14:
		c := call(p.dice.roll(p.house.Floors), 2*p.dice.roll(2)-1)
		p.riser.Press(c)
		p.lit.Press(c)
	case 15:
		floor := p.dice.roll(p.house.Floors+2) - 1
		p.hold(id, fmt.Sprint("Press ", floor), fmt.Sprint(p.nodes[id].Press(floor)), fmt.Sprint(p.told[id].press(floor)))
	case 16:
		p.power(id)
	case 17:
		p.blocked[id] = !p.blocked[id] && p.dice.roll(3) == 0
	case 18:
		if p.forged {
			p.hand(p.forge())
		}
	default:
		p.round()
	}
}

// power is something that is done with the power of a node.
func (p *play) power(id int) {
	switch p.dice.roll(4) {
	case 0:
		if p.dice.roll(3) == 0 {
			p.answered(id, "Cut", nil, p.nodes[id].Cut(), nil, p.told[id].cut())
		}
	case 1:
		n := p.dice.roll(40)
		p.cells[id].Arm(n)
		p.mems[id].armed = n
	default:
		if !p.nodes[id].Down() {
			return
		}
		p.cells[id].Back()
		p.mems[id].armed, p.mems[id].down = 0, false
		if p.dice.roll(8) == 0 {
			p.cells[id].Arm(5)
			p.mems[id].armed = 5
		}
		p.boot(id, p.nodes[id].Car().State.Pos)
	}
}

// judge holds what is promised of the whole against what is done: who claims what, whose doors are open.
type judge struct {
	house   api.House
	owner   map[owned]int
	awarded map[owned]bool
	cars    []judged
}

// owned is a call in an epoch.
type owned struct {
	epoch api.Epoch
	latch api.Latch
}

// judged is what is known of a car.
type judged struct {
	isOpen         bool
	floor, lantern int
	epoch          api.Epoch
	claims         map[api.Latch]bool
	booted         bool
}

func newJudge(h api.House) judge {
	return judge{house: h, owner: map[owned]int{}, awarded: map[owned]bool{}, cars: make([]judged, h.Cars)}
}

// all is the first fault of l.
func (j *judge) all(l []api.Event) string {
	for _, e := range l {
		if fault := j.one(e); fault != "" {
			return fault
		}
	}
	return ""
}

func (j *judge) one(e api.Event) string {
	c, key := &j.cars[e.Car], owned{e.Epoch, e.Latch}
	switch e.Kind {
	case api.Boot:
		if c.isOpen {
			return "booted with its door open"
		}
		c.claims, c.booted = map[api.Latch]bool{}, true
	case api.Found, api.Join:
		if e.Epoch.Count < c.epoch.Count || e.Epoch.Count == c.epoch.Count && (c.booted || e.Epoch.Founder <= c.epoch.Founder) {
			return "an epoch that is not later"
		}
		c.epoch, c.booted, c.claims = e.Epoch, false, map[api.Latch]bool{}
	case api.Award:
		if j.awarded[key] {
			return "awarded twice"
		}
		j.awarded[key] = true
	case api.Claim:
		if owner, is := j.owner[key]; is && owner != e.Car || e.Epoch != c.epoch || c.claims[e.Latch] {
			return "claimed twice, or elsewhere"
		}
		j.owner[key], c.claims[e.Latch] = e.Car, true
	case api.Leave:
		c.claims = map[api.Latch]bool{}
	default:
		return j.moved(c, e)
	}
	return ""
}

// moved is the fault of what a car did.
func (j *judge) moved(c *judged, e api.Event) string {
	switch e.Kind {
	case api.Open:
		if c.isOpen || e.Floor < 0 || e.Floor >= j.house.Floors {
			return "opened twice, or outside"
		}
		c.isOpen, c.floor, c.lantern = true, e.Floor, e.Dir
	case api.Close:
		if !c.isOpen || e.Floor != c.floor {
			return "closed twice, or elsewhere"
		}
		c.isOpen = false
	case api.Move:
		if c.isOpen || e.Floor < 0 || e.Floor >= j.house.Floors || e.Dir != api.Up && e.Dir != api.Down {
			return "moved with its door open, or outside"
		}
	case api.Clear:
		if !c.isOpen || e.Floor != c.floor || e.Latch.Call != call(c.floor, c.lantern) || !c.claims[e.Latch] || e.Epoch != c.epoch {
			return "cleared what is not there, or not its own"
		}
		delete(c.claims, e.Latch)
	}
	return ""
}

// houses are those that are played.
func houses() []api.House {
	return []api.House{
		{Cars: 1, Floors: 3, Speed: 1, Dwell: 1},
		{Cars: 2, Floors: 4, Speed: 2, Dwell: 1},
		{Cars: 3, Floors: 5, Speed: 1, Dwell: 2},
		{Cars: 4, Floors: 6, Speed: 3, Dwell: 1},
	}
}

// playAll plays each house several times, and is how many events of each kind there were.
func playAll(t *testing.T, plays, acts int, forged bool) [api.Return + 1]int {
	t.Helper()
	var kinds [api.Return + 1]int
	for i, h := range houses() {
		for seed := range plays {
			p := newPlay(t, h, 1000*i+seed+1, forged)
			for range acts {
				if p.act(); p.failed {
					return kinds
				}
			}
			for _, e := range p.events {
				kinds[e.Kind]++
			}
		}
	}
	return kinds
}

func TestPlays(t *testing.T) {
	for _, forged := range []bool{false, true} {
		kinds := playAll(t, 10, 400, forged)
		for kind := api.Claim; kind <= api.Return; kind++ {
			if kinds[kind] == 0 {
				t.Errorf("forged %v: no event of kind %d in all plays: %v", forged, kind, kinds)
			}
		}
	}
}

// TestPlaysWhereThePowerGoes has the power go at each byte that a play of two nodes writes.
func TestPlaysWhereThePowerGoes(t *testing.T) {
	h := api.House{Cars: 2, Floors: 3, Speed: 1, Dwell: 1}
	for id := range h.Cars {
		for k := 1; k <= 4*puts; k++ {
			p := newPlay(t, h, 7, false)
			p.cells[id].Arm(k)
			p.mems[id].armed = k
			for i := range 90 {
				if i%9 == 5 {
					p.riser.Press(call(i%3, api.Up))
					p.lit.Press(call(i%3, api.Up))
				}
				p.round()
				if p.nodes[id].Down() && i%4 == 0 {
					p.cells[id].Back()
					p.mems[id].armed, p.mems[id].down = 0, false
					p.boot(id, p.nodes[id].Car().State.Pos)
				}
				if p.failed {
					t.Fatalf("the power gone at byte %d, round %d", k, i)
				}
			}
		}
	}
}

// TestAPlayIsTheSameAgain has what is done hang on nothing but what was handed in.
func TestAPlayIsTheSameAgain(t *testing.T) {
	h := api.House{Cars: 3, Floors: 5, Speed: 2, Dwell: 1}
	var texts []string
	for range 2 {
		p := newPlay(t, h, 99, true)
		for range 400 {
			p.act()
		}
		texts = append(texts, fmt.Sprint(p.events, p.net))
	}
	if texts[0] != texts[1] {
		t.Error("another play")
	}
}
