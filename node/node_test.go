package node_test

import (
	"fmt"
	"math"
	"slices"
	"testing"

	"paternoster/api"
	"paternoster/car"
	"paternoster/cell"
	"paternoster/node"
	"paternoster/riser"
	"paternoster/store"
)

// What the tests of all of the package stand on; P22.1, P22.4

// Numbers of the layers below, told anew.
const (
	puts     = 14        // of a store's Save: a mark, twice six bytes, a mark
	mostKept = 1<<48 - 1 // of a life, and of a count
)

// house is one of three cars, in which no number is as another one. A car of it waits for 20 ticks.
func house() api.House {
	return api.House{Cars: 3, Floors: 5, Speed: 4, Dwell: 2}
}

// patience is for how many ticks a car of house waits.
const patience = 20

func call(floor, dir int) api.Call {
	return api.Call{Floor: floor, Dir: dir}
}

func latch(floor, dir, gen int) api.Latch {
	return api.Latch{Call: call(floor, dir), Gen: gen}
}

// at is the epoch of a count and a founder.
func at(count int64, founder int) api.Epoch {
	return api.Epoch{Count: count, Founder: founder}
}

// beyond are numbers of all kinds.
func beyond() []int {
	return []int{
		math.MinInt, math.MinInt + 1, -1 << 32, -1 << 31, -65, -17, -3, -2, -1, 0, 1, 2, 3, 4, 5, 15, 16, 17, 63, 64, 65,
		255, 256, 257, 1<<31 - 1, 1 << 31, 1 << 32, 1<<32 + 1, 1<<32 + 4, math.MaxInt - 1, math.MaxInt,
	}
}

// newCell is one with room for a store.
func newCell(t *testing.T) *cell.Cell {
	t.Helper()
	c, err := cell.New(store.Size)
	if err != nil {
		t.Fatal(err)
	}
	return c
}

// cellOf is a cell that has that record.
func cellOf(t *testing.T, count, life int64) *cell.Cell {
	t.Helper()
	c := newCell(t)
	s, err := store.Open(c)
	if err != nil {
		t.Fatal(err)
	}
	if err := s.Save(store.Record{Count: count, Life: life}); err != nil {
		t.Fatal(err)
	}
	return c
}

// kept is the record that c has, behind a power cut too.
func kept(t *testing.T, c *cell.Cell) store.Record {
	t.Helper()
	c = c.Clone()
	c.Back()
	s, err := store.Open(c)
	if err != nil {
		t.Fatal(err)
	}
	return s.Record()
}

// newRiser is one of so many floors, on which the calls of l are lit, each for the first time.
func newRiser(t *testing.T, floors int, l ...api.Call) *riser.Riser {
	t.Helper()
	r, err := riser.New(floors)
	if err != nil {
		t.Fatal(err)
	}
	for _, c := range l {
		if _, ok := r.Press(c); !ok {
			t.Fatal("not lit: ", c)
		}
	}
	return r
}

// booted is a node that New has to make, with its Boot.
func booted(t *testing.T, h api.House, id int, c *cell.Cell, pos int) *node.Node {
	t.Helper()
	n, events, err := node.New(h, id, c, pos)
	if n == nil || err != nil {
		t.Fatalf("New(%v, %d, %d) = %v, %v", h, id, pos, n, err)
	}
	same(t, fmt.Sprint("New of ", id), events, []api.Event{{Kind: api.Boot, Car: id}})
	return n
}

// fresh is node 1 of house, at floor 0, with a new cell.
func fresh(t *testing.T) *node.Node {
	t.Helper()
	return booted(t, house(), 1, newCell(t), 0)
}

// same holds got against want, of any kinds; no list and an empty one are the same.
func same(t *testing.T, what string, got, want any) {
	t.Helper()
	if g, w := fmt.Sprintf("%+v", got), fmt.Sprintf("%+v", want); g != w {
		t.Errorf("%s: %s, not %s", what, g, w)
	}
}

// asked is all that a node may be asked.
type asked struct {
	Down    bool
	Car     car.Car
	Life    int64
	Epoch   api.Epoch
	Members []int
	Claims  []api.Latch
	Calls   []int
	Out     bool
	Alive   []int
}

func ask(n *node.Node) asked {
	return asked{n.Down(), n.Car(), n.Life(), n.Epoch(), n.Members(), n.Claims(), n.Calls(), n.Out(), n.Alive()}
}

// standing is a car that stands at pos with its door closed.
func standing(pos int, relevel bool) car.Car {
	return car.Car{State: api.State{Pos: pos, Relevel: relevel}}
}

// New

func TestNew(t *testing.T) {
	for _, h := range []api.House{{Cars: 1, Floors: 2, Speed: 1, Dwell: 1}, house(), {Cars: 16, Floors: 64, Speed: 8, Dwell: 8}} {
		top := (h.Floors - 1) * h.Speed
		for id := range h.Cars {
			c := newCell(t)
			for i, pos := range []int{0, 1, h.Speed, top - 1, top} {
				n := booted(t, h, id, c, pos)
				life := int64(i + 1)
				same(t, fmt.Sprint("a new node ", h, id, pos), ask(n), asked{Car: standing(pos, pos%h.Speed != 0), Life: life})
				same(t, "its record", kept(t, c), store.Record{Life: life})
			}
		}
	}
}

func TestNewAtEachPos(t *testing.T) {
	for pos := -10; pos <= 30; pos++ {
		c := newCell(t)
		n, events, err := node.New(house(), 2, c, pos)
		if pos >= 0 && pos <= 16 {
			if n == nil || err != nil || n.Car() != standing(pos, pos%4 != 0) {
				t.Errorf("New at %d: %v", pos, err)
			}
			continue
		}
		if n != nil || len(events) > 0 || err != api.ErrRange {
			t.Errorf("New at %d: %v, %v, %v", pos, n, events, err)
		}
	}
}

func TestNewOfARecord(t *testing.T) {
	c := cellOf(t, 7, 12)
	n := booted(t, house(), 1, c, 6)
	same(t, "a node", ask(n), asked{Car: standing(6, true), Life: 13})
	same(t, "its record", kept(t, c), store.Record{Count: 7, Life: 13})
	r := newRiser(t, 5)
	// Its gate has the record's count as its floor.
	for _, e := range []api.Epoch{at(1, 0), at(6, 15), at(7, 0), at(7, 15)} {
		unheard(t, fmt.Sprint("a token of ", e), n, token(e, 5, 0, 1), r)
	}
	f, _ := n.Tick(r, false)
	same(t, "its beats", f, beats(1, 13, 7, false))
	heard(t, n, token(at(8, 0), 5, 0, 1), r)
	same(t, "the epoch that it is in then", n.Epoch(), at(8, 0))
}

// wrongHouses are houses that are not valid.
func wrongHouses() []api.House {
	l := []api.House{{}}
	for _, n := range beyond() {
		for _, h := range []api.House{{Cars: n, Floors: 5, Speed: 4, Dwell: 2}, {Cars: 3, Floors: n, Speed: 4, Dwell: 2}, {Cars: 3, Floors: 5, Speed: n, Dwell: 2}, {Cars: 3, Floors: 5, Speed: 4, Dwell: n}} {
			if h.Cars < 1 || h.Cars > 16 || h.Floors < 2 || h.Floors > 64 || h.Speed < 1 || h.Speed > 8 || h.Dwell < 1 || h.Dwell > 8 {
				l = append(l, h)
			}
		}
	}
	return l
}

// notNew holds what New answers against an error, and that the cell is as it was.
func notNew(t *testing.T, h api.House, id int, c *cell.Cell, pos int, want error) {
	t.Helper()
	was := c.Clone()
	n, events, err := node.New(h, id, c, pos)
	if n != nil || len(events) > 0 || err != want {
		t.Errorf("New(%v, %d, %d) = %v, %v, %v, not %v", h, id, pos, n, events, err, want)
	}
	same(t, "the cell", c, was)
}

func TestNewOfWrongArguments(t *testing.T) {
	for _, h := range wrongHouses() {
		notNew(t, h, 0, newCell(t), 0, api.ErrRange)
		notNew(t, h, 1, newCell(t), 4, api.ErrRange)
	}
	for _, n := range beyond() {
		if n < 0 || n >= 3 {
			notNew(t, house(), n, newCell(t), 0, api.ErrRange)
		}
		if n < 0 || n > 16 {
			notNew(t, house(), 0, newCell(t), n, api.ErrRange)
		}
	}
	notNew(t, api.House{Cars: 16, Floors: 5, Speed: 4, Dwell: 2}, 16, newCell(t), 0, api.ErrRange)
}

func TestNewOfWrongCells(t *testing.T) {
	for _, size := range []int{1, 13, store.Size - 1} {
		c, err := cell.New(size)
		if err != nil {
			t.Fatal(err)
		}
		notNew(t, house(), 1, c, 0, api.ErrRange)
	}
	// A greater one does.
	c, err := cell.New(4096)
	if err != nil {
		t.Fatal(err)
	}
	booted(t, house(), 1, c, 0)
	c = newCell(t)
	c.Arm(1)
	c.Put(0, 1)
	notNew(t, house(), 1, c, 0, api.ErrPower)
	// What is wrong with the arguments is met ahead of what is wrong with the cell.
	notNew(t, api.House{}, 1, c, 0, api.ErrRange)
	notNew(t, house(), 3, c, 0, api.ErrRange)
	notNew(t, house(), 1, c, 17, api.ErrRange)
}

func TestNewOfTheLastLife(t *testing.T) {
	for _, count := range []int64{0, 1, mostKept} {
		notNew(t, house(), 1, cellOf(t, count, mostKept), 0, api.ErrRange)
		c := cellOf(t, count, mostKept-1)
		n := booted(t, house(), 1, c, 0)
		same(t, "the last life", n.Life(), int64(mostKept))
		same(t, "its record", kept(t, c), store.Record{Count: count, Life: mostKept})
		notNew(t, house(), 1, c, 0, api.ErrRange)
	}
}

func TestNewWhosePowerGoes(t *testing.T) {
	for _, count := range []int64{0, 9} {
		for k := 1; k <= puts; k++ {
			c := cellOf(t, count, 3)
			c.Arm(k)
			n, events, err := node.New(house(), 1, c, 0)
			if n != nil || len(events) > 0 || err != api.ErrPower || !c.Down() {
				t.Errorf("New, the power gone at byte %d: %v, %v, %v", k, n, events, err)
			}
			same(t, "its record", kept(t, c), store.Record{Count: count, Life: 3})
			c.Back()
			same(t, "the life behind it", booted(t, house(), 1, c, 0).Life(), int64(4))
		}
		c := cellOf(t, count, 3)
		c.Arm(puts + 1)
		booted(t, house(), 1, c, 0)
	}
}

// Press

func TestPress(t *testing.T) {
	n := fresh(t)
	for i, floor := range []int{3, 0, 4, 1, 2} {
		if !n.Press(floor) || n.Press(floor) {
			t.Error("Press of ", floor)
		}
		same(t, "Calls", n.Calls(), [][]int{{3}, {0, 3}, {0, 3, 4}, {0, 1, 3, 4}, {0, 1, 2, 3, 4}}[i])
	}
	for _, floor := range []int{3, 0, 4, 1, 2} {
		if n.Press(floor) {
			t.Error("Press once more of ", floor)
		}
	}
	same(t, "a node with all car calls", ask(n), asked{Life: 1, Calls: []int{0, 1, 2, 3, 4}})
}

func TestPressOfNoFloor(t *testing.T) {
	for _, floors := range []int{2, 5, 63, 64} {
		h := house()
		h.Floors = floors
		n := booted(t, h, 1, newCell(t), 0)
		for _, floor := range append(beyond(), floors, floors+1) {
			if (floor < 0 || floor >= floors) && n.Press(floor) {
				t.Errorf("Press of %d of %d floors", floor, floors)
			}
		}
		same(t, "Calls", n.Calls(), []int{})
		if !n.Press(floors-1) || !n.Press(0) {
			t.Error("Press of the first and the last one of ", floors)
		}
		same(t, "Calls", n.Calls(), []int{0, floors - 1})
	}
}

func TestPressOfOneThatIsServed(t *testing.T) {
	n, r := fresh(t), newRiser(t, 5)
	n.Press(0)
	ticked(t, "the tick that opens", n, r, false, api.Event{Kind: api.Open, Car: 1})
	if !n.Press(0) || n.Press(0) {
		t.Error("Press of a floor whose call is gone")
	}
	same(t, "Calls", n.Calls(), []int{0})
}

// Cut

// busy is node 1 of house in an epoch, with a claim, car calls, others heard, its door open at floor 2; and its cell, and the hall buttons.
func busy(t *testing.T) (*node.Node, *cell.Cell, *riser.Riser) {
	t.Helper()
	c, r := newCell(t), newRiser(t, 5, call(4, api.Down), call(3, api.Up))
	n := booted(t, house(), 1, c, 8)
	heard(t, n, beat(2, 6, 4, false), r)
	heard(t, n, token(at(5, 2), 7, 1, 2, awarded(latch(4, api.Down, 1), 1)), r)
	n.Press(2)
	n.Press(0)
	ticked(t, "busy", n, r, false, api.Event{Kind: api.Open, Car: 1, Floor: 2, Dir: api.Up})
	same(t, "a busy one", ask(n), asked{
		Car: car.Car{State: api.State{Pos: 8, Dir: api.Up, Door: 2}}, Life: 1, Epoch: at(5, 2), Members: []int{1, 2},
		Claims: []api.Latch{latch(4, api.Down, 1)}, Calls: []int{0}, Alive: []int{2},
	})
	return n, c, r
}

// isDown holds what is asked of one that is down at pos, in a life, and what it does then, against what it has to be.
func isDown(t *testing.T, what string, n *node.Node, r *riser.Riser, pos int, relevel bool, life int64) {
	t.Helper()
	lit := r.Lit()
	for range 2 {
		same(t, what, ask(n), asked{Down: true, Car: standing(pos, relevel), Life: life})
		for _, obstructed := range []bool{false, true} {
			if f, e := n.Tick(r, obstructed); len(f)+len(e) > 0 {
				t.Errorf("%s: a Tick: %v, %v", what, f, e)
			}
		}
		for _, x := range []api.Frame{beat(0, 9, 9, false), beat(2, 99, 99, true), token(at(99, 0), 9, 0, 1), token(at(5, 2), 99, 1, 2)} {
			if f, e := n.Hear(x, r); len(f)+len(e) > 0 {
				t.Errorf("%s: %v heard: %v, %v", what, x, f, e)
			}
		}
		for floor := range 5 {
			if n.Press(floor) {
				t.Errorf("%s: Press of %d", what, floor)
			}
		}
		if e := n.Cut(); len(e) > 0 {
			t.Errorf("%s: Cut once more: %v", what, e)
		}
	}
	same(t, what+": what is lit", r.Lit(), lit)
}

func TestCutWithItsDoorOpen(t *testing.T) {
	n, c, r := busy(t)
	was := c.Clone()
	same(t, "Cut", n.Cut(), []api.Event{{Kind: api.Close, Car: 1, Floor: 2}})
	isDown(t, "cut", n, r, 8, false, 1)
	same(t, "the cell", c, was)
	same(t, "the record", kept(t, c), store.Record{Count: 5, Life: 1})
}

func TestCutOfOneThatIsObstructed(t *testing.T) {
	n, _, r := busy(t)
	for range 5 {
		n.Tick(r, true)
	}
	if n.Car().Held == 0 {
		t.Fatal("not held")
	}
	same(t, "Cut", n.Cut(), []api.Event{{Kind: api.Close, Car: 1, Floor: 2}})
	isDown(t, "cut", n, r, 8, false, 1)
}

func TestCutWithItsDoorClosed(t *testing.T) {
	// The first tick opens no door, but starts it; the second one leaves it between floors.
	n, _, r := busy(t)
	for range 2 {
		n.Tick(r, false)
	}
	if n.Car().State.Door != 0 {
		t.Fatal("open")
	}
	same(t, "Cut at a floor", n.Cut(), []api.Event{})
	isDown(t, "cut at a floor", n, r, 8, false, 1)

	n, _, r = busy(t)
	for range 4 {
		n.Tick(r, false)
	}
	if n.Car().State.Pos != 10 {
		t.Fatal("not between floors")
	}
	same(t, "Cut between floors", n.Cut(), []api.Event{})
	isDown(t, "cut between floors", n, r, 10, true, 1)
}

func TestCutOfOneThatIsNew(t *testing.T) {
	n := booted(t, house(), 2, newCell(t), 16)
	same(t, "Cut", n.Cut(), []api.Event{})
	isDown(t, "cut", n, newRiser(t, 5), 16, false, 1)
}

func TestCutOfOneThatIsOut(t *testing.T) {
	n, r := outNode(t)
	same(t, "Cut", n.Cut(), []api.Event{{Kind: api.Close, Car: 1, Floor: 2}})
	isDown(t, "cut", n, r, 8, false, 1)
}

func TestBackBehindACut(t *testing.T) {
	n, c, r := busy(t)
	n.Cut()
	m := booted(t, house(), 1, c, n.Car().State.Pos)
	same(t, "one that came back", ask(m), asked{Car: standing(8, false), Life: 2})
	for _, x := range []api.Frame{token(at(5, 2), 99, 1, 2), token(at(5, 15), 99, 1, 2), token(at(4, 9), 99, 1, 2)} {
		unheard(t, "one that came back", m, x, r)
	}
	heard(t, m, token(at(6, 0), 0, 1, 2), r)
	isDown(t, "the one that went", n, r, 8, false, 1)
}

// Memory that is handed out

// spoil writes into l, behind its length too, and appends to it.
func spoil[T any](l []T, x T) {
	_ = append(l, x)
	l = l[:cap(l)]
	for i := range l {
		l[i] = x
	}
}

// spoilFrames writes into all of the lists of l.
func spoilFrames(l []api.Frame) {
	for _, f := range l {
		for _, e := range f.Ring.Entries {
			spoil(e.Bids, api.Bid{Car: 14, Ticks: 14})
		}
		spoil(f.Ring.Entries, awarded(latch(14, 14, 14), 14, api.Bid{Car: 14}))
		spoil(f.Ring.Members, 14)
	}
	spoil(l, api.Frame{Kind: 14})
}

// spoilAsked writes into all that n answers of itself.
func spoilAsked(n *node.Node) {
	spoil(n.Members(), 14)
	spoil(n.Claims(), latch(14, 14, 14))
	spoil(n.Calls(), 14)
	spoil(n.Alive(), 14)
}

func TestListsAreNew(t *testing.T) {
	n, c, r := busy(t)
	n.Press(4)
	was := ask(n)
	lists, text := ask(n), fmt.Sprint(ask(n))
	spoilAsked(n)
	same(t, "behind writing into what it told", ask(n), was)
	same(t, "what it told ahead of that", fmt.Sprint(lists), text)
	n.Cut()
	same(t, "what it told ahead of a Cut", fmt.Sprint(lists), text)
	n, events, err := node.New(house(), 1, c, 8)
	if err != nil {
		t.Fatal(err)
	}
	spoil(events, api.Event{Kind: 14})
	same(t, "behind writing into its Boot", ask(n), asked{Car: standing(8, false), Life: 2})
	n.Press(3)
	n.Press(1)
	_ = append(n.Calls()[:1], 99)
	same(t, "Calls", n.Calls(), []int{1, 3})
	n.Tick(r, false)
}

// TestNodesAreTheirOwn has what is done with one node seen in no other one, and nothing that the one was made of.
func TestNodesAreTheirOwn(t *testing.T) {
	a, _, r := busy(t)
	b, _, _ := busy(t)
	was := ask(b)
	a.Press(4)
	a.Tick(r, true)
	a.Hear(beat(0, 9, 9, false), r)
	a.Hear(token(at(7, 0), 9, 0, 1), r)
	a.Cut()
	same(t, "another node", ask(b), was)
	if slices.Equal(a.Members(), b.Members()) {
		t.Error("the same members")
	}
}
