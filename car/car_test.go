package car_test

import (
	"math"
	"slices"
	"testing"

	"paternoster/ahead"
	"paternoster/api"
	"paternoster/car"
	"paternoster/door"
	"paternoster/plan"
	"paternoster/riser"
)

// P16.1, P16.2

// The limits and the directions, told anew.
const (
	mostCars   = 16
	mostFloors = 64
	mostSpeed  = 8
	mostDwell  = 8
	down       = -1
	none       = 0
	up         = 1
)

// Houses

// house is one of 2 cars and a Dwell of 4.
func house(floors, speed int) api.House {
	return api.House{Cars: 2, Floors: floors, Speed: speed, Dwell: 4}
}

// five is the house that the tests play in, where nothing hangs on the house: its floors are at 0, 3, 6, 9 and 12.
func five() api.House { return house(5, 3) }

// houses are valid ones of each speed, of few floors and of many.
func houses() []api.House {
	var l []api.House
	for _, floors := range []int{2, 3, 4, 5, 17, 32, 33, 63, mostFloors} {
		for speed := 1; speed <= mostSpeed; speed++ {
			l = append(l, house(floors, speed))
		}
	}
	return l
}

// ends are the least house that there may be, the greatest, and those with one number at the other end.
func ends() []api.House {
	return []api.House{
		{Cars: 1, Floors: 2, Speed: 1, Dwell: 1}, {Cars: mostCars, Floors: mostFloors, Speed: mostSpeed, Dwell: mostDwell},
		{Cars: mostCars, Floors: 2, Speed: 1, Dwell: 1}, {Cars: 1, Floors: mostFloors, Speed: 1, Dwell: 1}, {Cars: 1, Floors: 2, Speed: mostSpeed, Dwell: 1}, {Cars: 1, Floors: 2, Speed: 1, Dwell: mostDwell},
		{Cars: 1, Floors: mostFloors, Speed: mostSpeed, Dwell: mostDwell}, {Cars: mostCars, Floors: 2, Speed: mostSpeed, Dwell: mostDwell}, {Cars: mostCars, Floors: mostFloors, Speed: 1, Dwell: mostDwell}, {Cars: mostCars, Floors: mostFloors, Speed: mostSpeed, Dwell: 1},
	}
}

// notValid are houses that are not valid, by one number, or by all.
func notValid() []api.House {
	l := []api.House{{}, {Cars: -1, Floors: -1, Speed: -1, Dwell: -1}, {Cars: math.MaxInt, Floors: math.MaxInt, Speed: math.MaxInt, Dwell: math.MaxInt}, {Cars: math.MinInt, Floors: math.MinInt, Speed: math.MinInt, Dwell: math.MinInt}}
	for _, n := range append(far(), 0, -1, -2, -64) {
		l = append(l, api.House{Cars: n, Floors: 5, Speed: 3, Dwell: 4}, api.House{Cars: 2, Floors: n, Speed: 3, Dwell: 4}, api.House{Cars: 2, Floors: 5, Speed: n, Dwell: 4}, api.House{Cars: 2, Floors: 5, Speed: 3, Dwell: n})
	}
	return append(l, api.House{Cars: mostCars + 1, Floors: 5, Speed: 3, Dwell: 4}, api.House{Cars: 2, Floors: 1, Speed: 3, Dwell: 4}, api.House{Cars: 2, Floors: mostFloors + 1, Speed: 3, Dwell: 4}, api.House{Cars: 2, Floors: 5, Speed: mostSpeed + 1, Dwell: 4}, api.House{Cars: 2, Floors: 5, Speed: 3, Dwell: mostDwell + 1})
}

// far are numbers far out, among them those that a narrower int would take for a number of the house five.
func far() []int {
	return []int{
		513, 1000, 1 << 16, 1<<16 + 6, 1<<31 - 1, 1 << 31, 1<<32 - 1, 1 << 32, 1<<32 + 1, 1<<32 + 6, 1 << 62, math.MaxInt - 12, math.MaxInt - 1, math.MaxInt,
		-250, -255, -256, -1<<16 + 6, -1 << 31, -1<<32 + 6, -1 << 32, -1 << 62, math.MinInt + 12, math.MinInt + 1, math.MinInt,
	}
}

// levels tells of each Pos of h whether it is a floor's, and floors which it is, or is the next below, by going from the lowest one up.
func levels(h api.House) (level []bool, floors []int) {
	for floor := range h.Floors - 1 {
		for tick := range h.Speed {
			level, floors = append(level, tick == 0), append(floors, floor)
		}
	}
	return append(level, true), append(floors, h.Floors-1)
}

// Cars

// shut is a car with its door closed.
func shut(pos, dir int) car.Car {
	return car.Car{State: api.State{Pos: pos, Dir: dir}}
}

// wide is a car with its door open.
func wide(pos, dir, left, held int) car.Car {
	return car.Car{State: api.State{Pos: pos, Dir: dir, Door: left}, Held: held}
}

// lost is a car that has to find its level first.
func lost(pos, dir int) car.Car {
	return car.Car{State: api.State{Pos: pos, Dir: dir, Relevel: true}}
}

// ways are the directions.
func ways() []int { return []int{down, none, up} }

// Stops

// power is 2 as often as that floor is high.
func power(floor int) uint64 {
	n := uint64(1)
	for range floor {
		n *= 2
	}
	return n
}

// ask is a car call at that floor.
func ask(floor int) ahead.Stops { return ahead.Stops{Car: power(floor)} }

// rise is a hall call Up at that floor.
func rise(floor int) ahead.Stops { return ahead.Stops{Up: power(floor)} }

// sink is a hall call Down at that floor.
func sink(floor int) ahead.Stops { return ahead.Stops{Down: power(floor)} }

// all is each of parts together.
func all(parts ...ahead.Stops) ahead.Stops {
	var s ahead.Stops
	for _, p := range parts {
		s.Car |= p.Car
		s.Up |= p.Up
		s.Down |= p.Down
	}
	return s
}

// full is with all there is.
func full() ahead.Stops {
	return ahead.Stops{Car: math.MaxUint64, Up: math.MaxUint64, Down: math.MaxUint64}
}

// kept is what of s may be in a house of so many floors, each call asked on its own.
func kept(floors int, s ahead.Stops) ahead.Stops {
	var inside ahead.Stops
	for floor := range floors {
		if ahead.At(s, floor) {
			inside = all(inside, ask(floor))
		}
		if ahead.Hall(s, floor, up) && riser.May(floors, api.Call{Floor: floor, Dir: up}) {
			inside = all(inside, rise(floor))
		}
		if ahead.Hall(s, floor, down) && riser.May(floors, api.Call{Floor: floor, Dir: down}) {
			inside = all(inside, sink(floor))
		}
	}
	return inside
}

// some are stops of all sorts: none, all, all of one sort, one alone anywhere, and mixed ones.
func some() []ahead.Stops {
	l := []ahead.Stops{{}, full(), {Car: math.MaxUint64}, {Up: math.MaxUint64}, {Down: math.MaxUint64}, {Up: math.MaxUint64, Down: math.MaxUint64}}
	for floor := range mostFloors {
		n := power(floor)
		l = append(l, ask(floor), rise(floor), sink(floor),
			ahead.Stops{Car: n * 0x9e3779b97f4a7c15, Up: n * 0x0123456789abcdef, Down: n * 0x00f0000010000201},
			ahead.Stops{Car: n - 1, Up: -n}, ahead.Stops{Up: n - 1, Down: -n}, ahead.Stops{Car: -n, Down: n - 1})
	}
	return l
}

// What is held against what

// starts holds what Start answers against what it has to.
func starts(t *testing.T, h api.House, pos int, want car.Car, ok bool) {
	t.Helper()
	if got, is := car.Start(h, pos); got != want || is != ok {
		t.Errorf("Start(%v, %d) = %v, %v, not %v, %v", h, pos, got, is, want, ok)
	}
}

// right holds what Right answers against what it has to.
func right(t *testing.T, h api.House, c car.Car, want bool) {
	t.Helper()
	if got := car.Right(h, c); got != want {
		t.Errorf("Right(%v, %v) = %v", h, c, got)
	}
}

// cuts holds what Cut answers against what it has to.
func cuts(t *testing.T, h api.House, c, want car.Car) {
	t.Helper()
	if got := car.Cut(h, c); got != want {
		t.Errorf("Cut(%v, %v) = %v, not %v", h, c, got, want)
	}
}

// ticks holds what Tick answers against what it has to.
func ticks(t *testing.T, h api.House, c car.Car, s ahead.Stops, obstructed bool, want car.Car, deed car.Deed) {
	t.Helper()
	if got, is := car.Tick(h, c, s, obstructed); got != want || is != deed {
		t.Errorf("Tick(%v, %v, %x, %v) = %v, %v, not %v, %v", h, c, s, obstructed, got, is, want, deed)
	}
}

// either is ticks, obstructed or not.
func either(t *testing.T, h api.House, c car.Car, s ahead.Stops, want car.Car, deed car.Deed) {
	t.Helper()
	ticks(t, h, c, s, false, want, deed)
	ticks(t, h, c, s, true, want, deed)
}

// Start

func TestStart(t *testing.T) {
	h := five()
	starts(t, h, 0, car.Car{}, true)
	starts(t, h, 12, shut(12, none), true)
	starts(t, h, 6, shut(6, none), true)
	starts(t, h, 1, lost(1, none), true)
	starts(t, h, 2, lost(2, none), true)
	starts(t, h, 4, lost(4, none), true)
	starts(t, h, 11, lost(11, none), true)
	starts(t, h, 13, car.Car{}, false)
	starts(t, h, 15, car.Car{}, false)
	starts(t, h, -1, car.Car{}, false)
	starts(t, h, -3, car.Car{}, false)
}

func TestStartAtEachPos(t *testing.T) {
	for _, h := range append(houses(), ends()...) {
		level, _ := levels(h)
		for pos, is := range level {
			want := shut(pos, none)
			want.State.Relevel = !is
			starts(t, h, pos, want, true)
			right(t, h, want, true)
		}
		for n := 1; n <= 20; n++ {
			starts(t, h, -n, car.Car{}, false)
			starts(t, h, len(level)-1+n, car.Car{}, false)
		}
		for _, pos := range far() {
			starts(t, h, pos, car.Car{}, false)
		}
	}
}

func TestStartInNoHouse(t *testing.T) {
	for _, h := range notValid() {
		for _, pos := range append(far(), 0, 1, 3, 6, 12, 13, -1) {
			starts(t, h, pos, car.Car{}, false)
		}
	}
}

// Right

func TestRight(t *testing.T) {
	h := five()
	for _, c := range []car.Car{
		{}, shut(0, up), shut(0, down), shut(6, none), shut(12, up), shut(12, down), shut(4, up), shut(4, down), shut(11, down),
		lost(4, none), lost(4, up), lost(4, down), lost(6, none), lost(6, up), lost(0, down),
		wide(6, none, 1, 0), wide(6, up, 4, 0), wide(0, down, 3, 0), wide(12, up, 2, 0),
		wide(6, up, 1, 1), wide(6, down, 1, 5), wide(0, none, 1, 12), wide(12, none, 1, 13), wide(6, none, 1, 1<<40), wide(6, none, 1, math.MaxInt),
	} {
		right(t, h, c, true)
	}
	for _, c := range []car.Car{
		// Where it is, which way it goes, how its door is.
		shut(-1, up), shut(13, down), shut(-3, none), shut(15, none), lost(-1, none), lost(13, down), wide(15, none, 1, 0), wide(-3, none, 1, 0),
		shut(6, 2), shut(6, -2), shut(4, 2), shut(4, -2), lost(4, 2), wide(6, 2, 1, 0),
		wide(6, none, -1, 0), wide(6, none, 5, 0), wide(6, none, 8, 0), wide(6, up, 5, 0),
		// Between floors.
		shut(4, none), shut(11, none), wide(4, up, 1, 0), wide(4, down, 4, 0), wide(4, up, 1, 1), wide(4, up, -1, 0),
		{State: api.State{Pos: 4, Dir: up, Door: 1, Relevel: true}},
		{State: api.State{Pos: 6, Door: 1, Relevel: true}}, {State: api.State{Pos: 6, Door: 1, Relevel: true}, Held: 1},
		// Held.
		wide(6, up, 2, 1), wide(6, up, 4, 1), wide(6, up, 3, 12), wide(6, up, 2, math.MaxInt),
		wide(6, up, 0, 1), wide(6, none, 0, 5), wide(4, up, 0, 1), wide(6, up, 0, math.MaxInt), {State: api.State{Pos: 4, Relevel: true}, Held: 1},
		wide(6, up, 1, -1), wide(6, up, 2, -1), wide(6, up, 0, -1), wide(6, up, 1, math.MinInt), wide(6, none, 0, math.MinInt), wide(4, up, 0, -1),
	} {
		right(t, h, c, false)
	}
}

// TestRightOfNumbersFarOut has each number of a car be far out, the others as they may be.
func TestRightOfNumbersFarOut(t *testing.T) {
	for _, n := range far() {
		right(t, five(), shut(n, up), false)
		right(t, five(), shut(n, none), false)
		right(t, five(), lost(n, none), false)
		right(t, five(), shut(6, n), false)
		right(t, five(), shut(4, n), false)
		right(t, five(), wide(6, up, n, 0), false)
		right(t, five(), wide(6, up, 1, n), n > 0)
		right(t, five(), wide(6, up, 2, n), false)
		right(t, five(), shutHeld(n), false)
		right(t, five(), wide(n, n, n, n), false)
	}
}

// shutHeld is a car at 6 with its door closed, and that Held.
func shutHeld(held int) car.Car { return wide(6, none, 0, held) }

func TestRightInNoHouse(t *testing.T) {
	for _, h := range notValid() {
		for _, c := range []car.Car{{}, shut(6, up), shut(4, up), lost(4, none), wide(6, up, 1, 0), wide(6, up, 1, 3)} {
			right(t, h, c, false)
		}
	}
}

// tale tells of a house, which is valid, word for word what cars do there.
type tale struct {
	dwell  int
	level  []bool
	floors []int
}

// taleOf is the tale of h.
func taleOf(h api.House) tale {
	level, floors := levels(h)
	return tale{h.Dwell, level, floors}
}

// right is whether c may be.
func (x tale) right(c car.Car) bool {
	level, s := x.level, c.State
	if s.Pos < 0 || s.Pos >= len(level) || s.Dir < -1 || s.Dir > 1 || s.Door < 0 || s.Door > x.dwell {
		return false
	}
	if s.Door > 0 && !level[s.Pos] || s.Relevel && s.Door != 0 {
		return false
	}
	if !level[s.Pos] && s.Dir == 0 && !s.Relevel {
		return false
	}
	return c.Held == 0 || c.Held > 0 && s.Door == 1
}

// states are cars in h, those that may be and those that may not, a number beyond each of its ends.
func states(h api.House) []car.Car {
	var l []car.Car
	for pos := -1; pos <= (h.Floors-1)*h.Speed+1; pos++ {
		for dir := -2; dir <= 2; dir++ {
			for left := -1; left <= h.Dwell+1; left++ {
				for held := -1; held <= 2; held++ {
					for _, relevel := range []bool{false, true} {
						l = append(l, car.Car{State: api.State{Pos: pos, Dir: dir, Door: left, Relevel: relevel}, Held: held})
					}
				}
			}
		}
	}
	return l
}

func TestRightOfEachState(t *testing.T) {
	for _, h := range append(ends()[:7], house(5, 3), house(4, 1), house(17, 2)) {
		x := taleOf(h)
		for _, c := range states(h) {
			right(t, h, c, x.right(c))
		}
	}
}

// Cut

func TestCut(t *testing.T) {
	h := five()
	for _, x := range []struct{ c, want car.Car }{
		{car.Car{}, car.Car{}},
		{shut(6, none), shut(6, none)}, {shut(6, up), shut(6, none)}, {shut(6, down), shut(6, none)}, {shut(12, up), shut(12, none)},
		{wide(6, none, 4, 0), shut(6, none)}, {wide(6, up, 2, 0), shut(6, none)}, {wide(3, down, 1, 0), shut(3, none)},
		{wide(6, up, 1, 3), shut(6, none)}, {wide(3, down, 1, 99), shut(3, none)}, {wide(0, none, 1, math.MaxInt), shut(0, none)},
		{shut(4, up), lost(4, none)}, {shut(4, down), lost(4, none)}, {shut(1, up), lost(1, none)}, {shut(11, down), lost(11, none)},
		{lost(4, none), lost(4, none)}, {lost(4, down), lost(4, none)}, {lost(4, up), lost(4, none)},
		{lost(6, none), shut(6, none)}, {lost(6, down), shut(6, none)}, {lost(0, up), shut(0, none)},
		// Those that may not be are cut too, by their Pos alone.
		{shut(4, none), lost(4, none)}, {wide(4, up, 3, 2), lost(4, none)}, {wide(6, 7, -3, -2), shut(6, none)}, {wide(6, math.MinInt, math.MaxInt, math.MinInt), shut(6, none)},
		// A Pos that is none.
		{shut(-1, up), car.Car{}}, {shut(13, down), car.Car{}}, {wide(-3, up, 1, 5), car.Car{}}, {wide(15, down, 4, 0), car.Car{}}, {lost(13, down), car.Car{}}, {lost(-1, up), car.Car{}},
	} {
		cuts(t, h, x.c, x.want)
	}
	for _, n := range far() {
		cuts(t, h, wide(n, up, 1, 2), car.Car{})
		cuts(t, h, lost(n, down), car.Car{})
	}
	for _, no := range notValid() {
		cuts(t, no, wide(6, up, 1, 2), car.Car{})
		cuts(t, no, car.Car{}, car.Car{})
		cuts(t, no, shut(4, down), car.Car{})
	}
}

// TestCutIsAsStart takes cars of each sort, those that may be and those that may not.
func TestCutIsAsStart(t *testing.T) {
	for _, h := range append(ends()[:7], house(5, 3), house(4, 1)) {
		for _, c := range states(h) {
			want, _ := car.Start(h, c.State.Pos)
			cuts(t, h, c, want)
		}
	}
}

// Tick of one that is not Right

// TestTickOfOneThatMayNotBe: as it was, whatever the stops.
func TestTickOfOneThatMayNotBe(t *testing.T) {
	wrong := []car.Car{
		shut(4, none), shut(-1, up), shut(13, down), shut(13, none), shut(-1, none), lost(13, none), lost(-1, down), shut(6, 2), shut(6, -2), shut(4, 2), lost(4, -2),
		wide(6, up, 5, 0), wide(6, up, -1, 0), wide(4, up, 1, 0), wide(4, up, 4, 0), wide(6, up, 2, 5), wide(6, up, 1, -1), shutHeld(1), shutHeld(-1), wide(4, up, 0, 1), wide(4, up, 0, -1),
		{State: api.State{Pos: 6, Door: 1, Relevel: true}}, {State: api.State{Pos: 4, Dir: down, Door: 1, Relevel: true}}, {State: api.State{Pos: 4, Relevel: true}, Held: 2},
	}
	for _, n := range far() {
		wrong = append(wrong, shut(n, up), shut(n, none), lost(n, down), wide(n, none, 1, 0), shut(6, n), shut(4, n), wide(6, up, n, 0), wide(6, up, 2, n), shutHeld(n), wide(n, n, n, n))
	}
	for _, c := range wrong {
		for _, s := range some() {
			either(t, five(), c, s, c, car.Deed{})
		}
	}
}

func TestTickInNoHouse(t *testing.T) {
	for _, h := range notValid() {
		for _, c := range []car.Car{{}, shut(6, up), shut(4, up), lost(4, none), lost(6, none), wide(6, up, 4, 0), wide(6, up, 1, 3), shut(3, down)} {
			for _, s := range []ahead.Stops{{}, full(), ask(2), all(rise(1), sink(3))} {
				either(t, h, c, s, c, car.Deed{})
			}
		}
	}
}

// Tick with the door open

// TestOpenDoor: whatever the stops, and whichever way it goes on, the car waits.
func TestOpenDoor(t *testing.T) {
	h := five()
	for _, s := range []ahead.Stops{{}, full(), ask(2), rise(2), sink(2), all(ask(2), rise(2), sink(2)), ask(4), ask(0), all(rise(0), sink(4))} {
		for _, dir := range ways() {
			for left := 2; left <= 4; left++ {
				// Ahead of the last tick it is nothing to it whether it is obstructed.
				either(t, h, wide(6, dir, left, 0), s, wide(6, dir, left-1, 0), car.Deed{Floor: 2})
			}
			ticks(t, h, wide(6, dir, 1, 0), s, false, shut(6, dir), car.Deed{Floor: 2, Closed: true})
			ticks(t, h, wide(6, dir, 1, 0), s, true, wide(6, dir, 1, 1), car.Deed{Floor: 2})
			ticks(t, h, wide(6, dir, 1, 1), s, true, wide(6, dir, 1, 2), car.Deed{Floor: 2})
			ticks(t, h, wide(6, dir, 1, 13), s, true, wide(6, dir, 1, 14), car.Deed{Floor: 2})
			ticks(t, h, wide(6, dir, 1, 13), s, false, shut(6, dir), car.Deed{Floor: 2, Closed: true})
			ticks(t, h, wide(6, dir, 1, math.MaxInt-1), s, true, wide(6, dir, 1, math.MaxInt), car.Deed{Floor: 2})
			ticks(t, h, wide(6, dir, 1, math.MaxInt), s, false, shut(6, dir), car.Deed{Floor: 2, Closed: true})
		}
	}
}

// TestOpenDoorOfTheGreatestHeld: one more has no room; it stays open, and may be.
func TestOpenDoorOfTheGreatestHeld(t *testing.T) {
	got, deed := car.Tick(five(), wide(6, up, 1, math.MaxInt), full(), true)
	if got.State != (api.State{Pos: 6, Dir: up, Door: 1}) || deed != (car.Deed{Floor: 2}) || !car.Right(five(), got) {
		t.Errorf("%v, %v", got, deed)
	}
}

// TestOpenDoorAtEachFloor: Floor is the one where it stands.
func TestOpenDoorAtEachFloor(t *testing.T) {
	for _, h := range append(houses(), ends()...) {
		for floor := range h.Floors {
			pos := floor * h.Speed
			for left := 2; left <= h.Dwell; left++ {
				either(t, h, wide(pos, up, left, 0), full(), wide(pos, up, left-1, 0), car.Deed{Floor: floor})
			}
			ticks(t, h, wide(pos, down, 1, 0), full(), true, wide(pos, down, 1, 1), car.Deed{Floor: floor})
			ticks(t, h, wide(pos, none, 1, 7), ahead.Stops{}, false, shut(pos, none), car.Deed{Floor: floor, Closed: true})
		}
	}
}

// TestDoorFromOpenToClosed: it is open for the house's Dwell of ticks, and for as many more as it is obstructed at the last of them.
func TestDoorFromOpenToClosed(t *testing.T) {
	for dwell := 1; dwell <= mostDwell; dwell++ {
		h := api.House{Cars: 1, Floors: 5, Speed: 3, Dwell: dwell}
		for _, held := range []int{0, 1, 2, 3 * dwell, 3*dwell + 1, 200} {
			c := shut(6, up)
			either(t, h, c, all(ask(2), ask(4)), wide(6, up, dwell, 0), car.Deed{Opened: true, Floor: 2, Lantern: up, Stops: ask(2)})
			c, _ = car.Tick(h, c, all(ask(2), ask(4)), true)
			for n := range dwell - 1 {
				ticks(t, h, c, ask(4), n%2 > 0, wide(6, up, dwell-1-n, 0), car.Deed{Floor: 2})
				c, _ = car.Tick(h, c, ask(4), n%2 > 0)
			}
			for n := range held {
				ticks(t, h, c, ask(4), true, wide(6, up, 1, n+1), car.Deed{Floor: 2})
				c, _ = car.Tick(h, c, ask(4), true)
			}
			ticks(t, h, c, ask(4), false, shut(6, up), car.Deed{Floor: 2, Closed: true})
			c, _ = car.Tick(h, c, ask(4), false)
			either(t, h, c, ask(4), shut(7, up), car.Deed{Floor: 2, Moved: 1})
		}
	}
}

// Tick with a level to find

// TestRelevelBetweenFloors: from wherever it is, down to the next floor, whatever its direction and the stops.
func TestRelevelBetweenFloors(t *testing.T) {
	for _, h := range append(houses(), ends()...) {
		level, floors := levels(h)
		for pos, is := range level {
			if is {
				continue
			}
			want := lost(pos-1, down)
			if level[pos-1] {
				want = shut(pos-1, none)
			}
			for _, s := range []ahead.Stops{{}, full(), ask(floors[pos]), all(ask(floors[pos]+1), rise(floors[pos]+1), sink(floors[pos]+1))} {
				for _, dir := range ways() {
					either(t, h, lost(pos, dir), s, want, car.Deed{Floor: floors[pos], Moved: -1})
				}
			}
		}
	}
}

// TestRelevelToItsEnd: of one that was started between floors, tick by tick; at its level it goes on as any other.
func TestRelevelToItsEnd(t *testing.T) {
	h := house(5, 8)
	for _, s := range []ahead.Stops{{}, ask(4), all(rise(2), sink(3)), full()} {
		c, _ := car.Start(h, 23)
		for pos := 22; pos > 16; pos-- {
			either(t, h, c, s, lost(pos, down), car.Deed{Floor: 2, Moved: -1})
			c, _ = car.Tick(h, c, s, false)
		}
		either(t, h, c, s, shut(16, none), car.Deed{Floor: 2, Moved: -1})
	}
	c, _ := car.Tick(h, shut(16, none), ask(4), false)
	if c != shut(17, up) {
		t.Error(c)
	}
}

// TestRelevelAtALevel: it is over, and the tick is as that of one without it.
func TestRelevelAtALevel(t *testing.T) {
	h := five()
	for floor := range h.Floors {
		for _, dir := range ways() {
			either(t, h, lost(3*floor, dir), ahead.Stops{}, shut(3*floor, none), car.Deed{Floor: floor})
			either(t, h, lost(3*floor, dir), ask(floor), wide(3*floor, none, 4, 0), car.Deed{Opened: true, Floor: floor, Stops: ask(floor)})
			for _, s := range some() {
				want, deed := car.Tick(h, shut(3*floor, dir), s, false)
				either(t, h, lost(3*floor, dir), s, want, deed)
			}
		}
	}
	// Its direction is kept, if there is something that way.
	either(t, h, lost(6, up), all(ask(0), ask(4)), shut(7, up), car.Deed{Floor: 2, Moved: 1})
	either(t, h, lost(6, down), all(ask(0), ask(4)), shut(5, down), car.Deed{Floor: 1, Moved: -1})
	either(t, h, lost(6, up), all(rise(2), sink(2)), wide(6, up, 4, 0), car.Deed{Opened: true, Floor: 2, Lantern: up, Stops: rise(2)})
	either(t, h, lost(6, down), all(rise(2), sink(2)), wide(6, down, 4, 0), car.Deed{Opened: true, Floor: 2, Lantern: down, Stops: sink(2)})
}

// Tick at a floor

func TestNothingToDo(t *testing.T) {
	for _, h := range append(houses(), ends()...) {
		for floor := range h.Floors {
			for _, dir := range ways() {
				either(t, h, shut(floor*h.Speed, dir), ahead.Stops{}, shut(floor*h.Speed, none), car.Deed{Floor: floor})
			}
		}
	}
}

// opens is a row: a direction and stops, with which a car opens that stands at floor 2 of five; its new direction, and what of the stops is told.
type opens struct {
	dir  int
	s    ahead.Stops
	want int
	told ahead.Stops
}

func TestOpens(t *testing.T) {
	over, under := all(ask(4), sink(3)), all(ask(0), rise(1))
	here, both := all(ask(2), rise(2), sink(2)), all(rise(2), sink(2))
	for _, x := range []opens{
		// A car call alone.
		{none, ask(2), none, ask(2)}, {up, ask(2), none, ask(2)}, {down, ask(2), none, ask(2)},
		{none, all(ask(2), ask(3)), up, ask(2)}, {none, all(ask(2), ask(0)), down, ask(2)}, {none, all(ask(2), over, under), up, ask(2)}, {none, all(ask(2), ask(1), ask(4)), down, ask(2)},
		{up, all(ask(2), over), up, ask(2)}, {up, all(ask(2), under), down, ask(2)}, {up, all(ask(2), over, under), up, ask(2)},
		{down, all(ask(2), over), up, ask(2)}, {down, all(ask(2), under), down, ask(2)}, {down, all(ask(2), over, under), down, ask(2)},
		// A hall call of either way alone.
		{none, rise(2), up, rise(2)}, {up, rise(2), up, rise(2)}, {down, rise(2), up, rise(2)},
		{none, sink(2), down, sink(2)}, {up, sink(2), down, sink(2)}, {down, sink(2), down, sink(2)},
		{none, all(rise(2), under), up, rise(2)}, {none, all(sink(2), over), down, sink(2)}, {up, all(rise(2), under), up, rise(2)}, {down, all(sink(2), over), down, sink(2)},
		{up, all(rise(2), over), up, rise(2)}, {down, all(rise(2), over), up, rise(2)}, {up, all(sink(2), under), down, sink(2)}, {down, all(sink(2), under), down, sink(2)},
		{up, all(rise(2), over, under), up, rise(2)}, {down, all(sink(2), over, under), down, sink(2)},
		// Of both the one of the lantern alone.
		{none, both, up, rise(2)}, {up, both, up, rise(2)}, {down, both, down, sink(2)},
		{up, all(both, over), up, rise(2)}, {up, all(both, under), up, rise(2)}, {down, all(both, over), down, sink(2)}, {down, all(both, under), down, sink(2)}, {none, all(both, over, under), up, rise(2)}, {none, all(both, under), up, rise(2)},
		// A car call with them.
		{none, all(ask(2), rise(2)), up, all(ask(2), rise(2))}, {none, all(ask(2), sink(2)), down, all(ask(2), sink(2))}, {none, here, up, all(ask(2), rise(2))},
		{up, here, up, all(ask(2), rise(2))}, {down, here, down, all(ask(2), sink(2))}, {up, all(here, under), up, all(ask(2), rise(2))}, {down, all(here, over), down, all(ask(2), sink(2))},
		// The one against its way waits, though the door is open.
		{up, all(ask(2), sink(2), over), up, ask(2)}, {down, all(ask(2), rise(2), under), down, ask(2)}, {up, all(ask(2), sink(2), under), down, all(ask(2), sink(2))}, {down, all(ask(2), rise(2), over), up, all(ask(2), rise(2))},
	} {
		either(t, five(), shut(6, x.dir), x.s, wide(6, x.want, 4, 0), car.Deed{Opened: true, Floor: 2, Lantern: x.want, Stops: x.told})
	}
}

// TestOpensForTheDwell: in each house, at its first floor, its last one, and one between.
func TestOpensForTheDwell(t *testing.T) {
	for dwell := 1; dwell <= mostDwell; dwell++ {
		for _, h := range ends() {
			h.Dwell = dwell
			for floor := range h.Floors {
				pos := floor * h.Speed
				either(t, h, shut(pos, none), ask(floor), wide(pos, none, dwell, 0), car.Deed{Opened: true, Floor: floor, Stops: ask(floor)})
				if floor < h.Floors-1 {
					either(t, h, shut(pos, none), rise(floor), wide(pos, up, dwell, 0), car.Deed{Opened: true, Floor: floor, Lantern: up, Stops: rise(floor)})
				}
				if floor > 0 {
					either(t, h, shut(pos, none), sink(floor), wide(pos, down, dwell, 0), car.Deed{Opened: true, Floor: floor, Lantern: down, Stops: sink(floor)})
				}
			}
		}
	}
}

// TestSetsOff: nothing at the floor for it, something elsewhere.
func TestSetsOff(t *testing.T) {
	h := five()
	rising, falling := shut(7, up), shut(5, down)
	for _, x := range []struct {
		dir  int
		s    ahead.Stops
		want car.Car
	}{
		{none, ask(3), rising}, {none, ask(1), falling}, {none, all(ask(1), ask(3)), rising}, {none, all(ask(1), ask(4)), falling}, {none, rise(0), falling}, {none, sink(4), rising},
		{up, ask(4), rising}, {up, rise(3), rising}, {up, sink(3), rising}, {up, all(ask(1), ask(4)), rising}, {up, ask(0), falling}, {up, rise(1), falling},
		{down, ask(0), falling}, {down, sink(1), falling}, {down, rise(1), falling}, {down, all(ask(0), ask(3)), falling}, {down, ask(4), rising}, {down, sink(3), rising},
		// Past one who goes the other way.
		{up, all(sink(2), ask(3)), rising}, {down, all(rise(2), ask(1)), falling}, {up, all(sink(2), ask(3), ask(1)), rising}, {down, all(rise(2), ask(3), ask(1)), falling},
	} {
		deed := car.Deed{Floor: 2, Moved: 1}
		if x.want == falling {
			deed = car.Deed{Floor: 1, Moved: -1}
		}
		either(t, h, shut(6, x.dir), x.s, x.want, deed)
	}
}

// TestSetsOffAtEachSpeed: by one tick; where the speed is 1 that is a floor.
func TestSetsOffAtEachSpeed(t *testing.T) {
	for _, h := range append(houses(), ends()...) {
		_, floors := levels(h)
		last := h.Floors - 1
		for floor := range h.Floors {
			pos := floor * h.Speed
			if floor < last {
				for _, s := range []ahead.Stops{ask(last), ask(floor + 1), sink(last)} {
					either(t, h, shut(pos, up), s, shut(pos+1, up), car.Deed{Floor: floors[pos+1], Moved: 1})
					either(t, h, shut(pos, none), s, shut(pos+1, up), car.Deed{Floor: floors[pos+1], Moved: 1})
					either(t, h, shut(pos, down), s, shut(pos+1, up), car.Deed{Floor: floors[pos+1], Moved: 1})
				}
			}
			if floor > 0 {
				for _, s := range []ahead.Stops{ask(0), ask(floor - 1), rise(0)} {
					either(t, h, shut(pos, up), s, shut(pos-1, down), car.Deed{Floor: floor - 1, Moved: -1})
					either(t, h, shut(pos, none), s, shut(pos-1, down), car.Deed{Floor: floor - 1, Moved: -1})
					either(t, h, shut(pos, down), s, shut(pos-1, down), car.Deed{Floor: floor - 1, Moved: -1})
				}
			}
		}
	}
}

// Tick between floors

// TestBetweenFloors: the car goes on in its direction, whatever the stops, till it stands level, and keeps it there.
func TestBetweenFloors(t *testing.T) {
	for _, h := range append(houses(), ends()...) {
		level, floors := levels(h)
		for pos, is := range level {
			if is {
				continue
			}
			for _, s := range []ahead.Stops{{}, full(), ask(0), ask(h.Floors - 1), all(ask(floors[pos]), rise(floors[pos]), sink(floors[pos])), all(ask(floors[pos]+1), rise(floors[pos]+1), sink(floors[pos]+1))} {
				either(t, h, shut(pos, up), s, shut(pos+1, up), car.Deed{Floor: floors[pos+1], Moved: 1})
				either(t, h, shut(pos, down), s, shut(pos-1, down), car.Deed{Floor: floors[pos], Moved: -1})
			}
		}
	}
}

// TestFromFloorToFloor: as many ticks as the Speed, up and down.
func TestFromFloorToFloor(t *testing.T) {
	for speed := 1; speed <= mostSpeed; speed++ {
		h := house(4, speed)
		c := shut(speed, none)
		for n := 1; n <= speed; n++ {
			either(t, h, c, ask(2), shut(speed+n, up), car.Deed{Floor: 1 + n/speed, Moved: 1})
			c, _ = car.Tick(h, c, ask(2), false)
		}
		either(t, h, c, ask(2), wide(2*speed, none, 4, 0), car.Deed{Opened: true, Floor: 2, Stops: ask(2)})
		for n := 1; n <= speed; n++ {
			either(t, h, c, ask(1), shut(2*speed-n, down), car.Deed{Floor: 1, Moved: -1})
			c, _ = car.Tick(h, c, ask(1), false)
		}
		either(t, h, c, ask(1), wide(speed, none, 4, 0), car.Deed{Opened: true, Floor: 1, Stops: ask(1)})
	}
}

// Tick at the first floor and the last one

func TestFirstAndLastFloor(t *testing.T) {
	for _, h := range append(houses(), ends()...) {
		last := h.Floors - 1
		top := last * h.Speed
		for _, dir := range ways() {
			either(t, h, shut(0, dir), all(ask(0), rise(0), sink(0)), wide(0, up, h.Dwell, 0), car.Deed{Opened: true, Lantern: up, Stops: all(ask(0), rise(0))})
			either(t, h, shut(top, dir), all(ask(last), rise(last), sink(last)), wide(top, down, h.Dwell, 0), car.Deed{Opened: true, Floor: last, Lantern: down, Stops: all(ask(last), sink(last))})
			either(t, h, shut(0, dir), full(), wide(0, up, h.Dwell, 0), car.Deed{Opened: true, Lantern: up, Stops: all(ask(0), rise(0))})
			either(t, h, shut(top, dir), full(), wide(top, down, h.Dwell, 0), car.Deed{Opened: true, Floor: last, Lantern: down, Stops: all(ask(last), sink(last))})
			either(t, h, shut(0, dir), all(ask(0), ask(last)), wide(0, up, h.Dwell, 0), car.Deed{Opened: true, Lantern: up, Stops: ask(0)})
			either(t, h, shut(top, dir), all(ask(0), ask(last)), wide(top, down, h.Dwell, 0), car.Deed{Opened: true, Floor: last, Lantern: down, Stops: ask(last)})
		}
	}
}

// What counts for nothing

// TestOutOfTheHouse: a hall call Up at the last floor, or Down at 0, alone: a car there or elsewhere has nothing to do.
func TestOutOfTheHouse(t *testing.T) {
	for _, h := range append(houses(), ends()...) {
		last := h.Floors - 1
		for floor := range h.Floors {
			pos := floor * h.Speed
			for _, dir := range ways() {
				either(t, h, shut(pos, dir), rise(last), shut(pos, none), car.Deed{Floor: floor})
				either(t, h, shut(pos, dir), sink(0), shut(pos, none), car.Deed{Floor: floor})
				either(t, h, shut(pos, dir), all(rise(last), sink(0)), shut(pos, none), car.Deed{Floor: floor})
			}
		}
	}
}

// TestFloorsThatTheHouseLacks: alone they are nothing to a car.
func TestFloorsThatTheHouseLacks(t *testing.T) {
	for floors := 2; floors < mostFloors; floors++ {
		h := house(floors, 3)
		beyond := ahead.Stops{Car: -power(floors), Up: -power(floors), Down: -power(floors)}
		for floor := range floors {
			for _, dir := range ways() {
				for _, s := range []ahead.Stops{beyond, ask(floors), rise(floors), sink(floors), ask(mostFloors - 1), rise(mostFloors - 1), sink(mostFloors - 1)} {
					either(t, h, shut(3*floor, dir), s, shut(3*floor, none), car.Deed{Floor: floor})
				}
			}
		}
	}
}

// TestBesideOthers: what counts for nothing changes nothing of what the others do.
func TestBesideOthers(t *testing.T) {
	h := five()
	nothing := all(rise(4), sink(0), ask(5), rise(5), sink(5), ask(9), rise(33), sink(63), ask(63))
	for _, x := range []struct {
		pos, dir int
		s        ahead.Stops
		want     car.Car
		deed     car.Deed
	}{
		{6, up, ahead.Stops{}, shut(6, none), car.Deed{Floor: 2}},
		{6, down, ahead.Stops{}, shut(6, none), car.Deed{Floor: 2}},
		{6, up, ask(0), shut(5, down), car.Deed{Floor: 1, Moved: -1}},
		{6, down, ask(4), shut(7, up), car.Deed{Floor: 2, Moved: 1}},
		{6, none, ask(0), shut(5, down), car.Deed{Floor: 1, Moved: -1}},
		{9, none, ask(0), shut(8, down), car.Deed{Floor: 2, Moved: -1}},
		{3, none, ask(4), shut(4, up), car.Deed{Floor: 1, Moved: 1}},
		{6, up, sink(2), wide(6, down, 4, 0), car.Deed{Opened: true, Floor: 2, Lantern: down, Stops: sink(2)}},
		{6, down, rise(2), wide(6, up, 4, 0), car.Deed{Opened: true, Floor: 2, Lantern: up, Stops: rise(2)}},
		{6, up, ask(2), wide(6, none, 4, 0), car.Deed{Opened: true, Floor: 2, Stops: ask(2)}},
		{6, down, ask(2), wide(6, none, 4, 0), car.Deed{Opened: true, Floor: 2, Stops: ask(2)}},
		{12, up, ask(4), wide(12, none, 4, 0), car.Deed{Opened: true, Floor: 4, Stops: ask(4)}},
		{12, none, sink(4), wide(12, down, 4, 0), car.Deed{Opened: true, Floor: 4, Lantern: down, Stops: sink(4)}},
		{12, up, all(ask(4), ask(1)), wide(12, down, 4, 0), car.Deed{Opened: true, Floor: 4, Lantern: down, Stops: ask(4)}},
		{0, down, ask(0), wide(0, none, 4, 0), car.Deed{Opened: true, Stops: ask(0)}},
		{0, none, rise(0), wide(0, up, 4, 0), car.Deed{Opened: true, Lantern: up, Stops: rise(0)}},
		{0, down, ask(1), shut(1, up), car.Deed{Moved: 1}},
		{12, up, ask(3), shut(11, down), car.Deed{Floor: 3, Moved: -1}},
	} {
		either(t, h, shut(x.pos, x.dir), x.s, x.want, x.deed)
		either(t, h, shut(x.pos, x.dir), all(x.s, nothing), x.want, x.deed)
		either(t, h, lost(x.pos, x.dir), all(x.s, nothing), x.want, x.deed)
	}
}

// All of it

// tick is c a tick later, and what it did, with stops that may all be.
func (x tale) tick(c car.Car, s ahead.Stops, obstructed bool) (car.Car, car.Deed) {
	if !x.right(c) {
		return c, car.Deed{}
	}
	next, deed := c, car.Deed{}
	switch {
	case c.State.Door > 0:
		var d door.Door
		d, deed.Closed = door.Tick(door.Door{Left: c.State.Door, Held: c.Held}, obstructed)
		next.State.Door, next.Held = d.Left, d.Held
	case !x.level[c.State.Pos]:
		if c.State.Relevel {
			next.State.Dir = down
		}
		deed.Moved = next.State.Dir
		next.State.Pos += next.State.Dir
		if x.level[next.State.Pos] && c.State.Relevel {
			next.State.Relevel, next.State.Dir = false, none
		}
	default:
		next.State.Relevel = false
		floor := x.floors[c.State.Pos]
		do := plan.At(s, floor, c.State.Dir)
		next.State.Dir = do.Dir
		deed.Moved = do.Move
		next.State.Pos += do.Move
		if do.Stop {
			deed.Opened, deed.Lantern = true, do.Dir
			next.State.Door = x.dwell
			deed.Stops.Car = s.Car & power(floor)
		}
		if do.Stop && do.Dir == up {
			deed.Stops.Up = s.Up & power(floor)
		}
		if do.Stop && do.Dir == down {
			deed.Stops.Down = s.Down & power(floor)
		}
	}
	deed.Floor = x.floors[next.State.Pos]
	return next, deed
}

// TestEachTickOfSmallHouses takes each car, those that may be and those that may not, with whatever stops at the floors of the house and at the one above it.
func TestEachTickOfSmallHouses(t *testing.T) {
	for _, h := range []api.House{{Cars: 1, Floors: 2, Speed: 1, Dwell: 1}, {Cars: 1, Floors: 2, Speed: 3, Dwell: 2}, {Cars: 2, Floors: 3, Speed: 1, Dwell: 2}, {Cars: 1, Floors: 3, Speed: 2, Dwell: 1}} {
		x := taleOf(h)
		var may, not []car.Car
		for _, c := range states(h) {
			if x.right(c) {
				may = append(may, c)
			} else {
				not = append(not, c)
			}
		}
		many := power(h.Floors + 1)
		for n := range many * many * many {
			s := ahead.Stops{Car: n % many, Up: n / many % many, Down: n / many / many}
			inside := kept(h.Floors, s)
			for _, c := range may {
				for _, obstructed := range []bool{false, true} {
					want, deed := x.tick(c, inside, obstructed)
					ticks(t, h, c, s, obstructed, want, deed)
				}
			}
			wrong := not[n%uint64(len(not))]
			either(t, h, wrong, s, wrong, car.Deed{})
		}
	}
}

// TestEachTickOfTheHouseOfFive takes each car with stops of all sorts.
func TestEachTickOfTheHouseOfFive(t *testing.T) {
	h := five()
	x := taleOf(h)
	for _, s := range some() {
		inside := kept(h.Floors, s)
		for _, c := range states(h) {
			for _, obstructed := range []bool{false, true} {
				want, deed := x.tick(c, inside, obstructed)
				ticks(t, h, c, s, obstructed, want, deed)
			}
		}
	}
}

// TestEachTickOfTheGreatestHouses takes a car at each Pos, with stops of all sorts.
func TestEachTickOfTheGreatestHouses(t *testing.T) {
	for _, h := range []api.House{{Cars: mostCars, Floors: mostFloors, Speed: mostSpeed, Dwell: mostDwell}, {Cars: 1, Floors: mostFloors, Speed: 1, Dwell: 1}, {Cars: 1, Floors: mostFloors - 1, Speed: 2, Dwell: 3}, {Cars: 2, Floors: 32, Speed: 1, Dwell: 4}, {Cars: 2, Floors: 33, Speed: 1, Dwell: 4}} {
		x := taleOf(h)
		for i, s := range some() {
			inside := kept(h.Floors, s)
			for pos := i % 3; pos <= (h.Floors-1)*h.Speed; pos += 3 {
				for _, dir := range ways() {
					for _, c := range []car.Car{shut(pos, dir), lost(pos, dir), wide(pos, dir, 1, 2)} {
						want, deed := x.tick(c, inside, false)
						ticks(t, h, c, s, false, want, deed)
					}
				}
			}
		}
	}
}

// Whole rides

// halt is a stop of a ride: where, and what the lantern shows.
type halt struct{ floor, lantern int }

// ride is where a car opens which is ticked till it rests, each stop gone that it tells; the door is obstructed for held ticks at each. It holds each tick against what a car may do.
func ride(t *testing.T, h api.House, c car.Car, s ahead.Stops, held int) ([]halt, ahead.Stops) {
	t.Helper()
	var halts []halt
	for range 4 * h.Floors * (h.Floors*h.Speed + h.Dwell + held + 2) {
		next, deed := car.Tick(h, c, s, c.Held < held)
		if !car.Right(h, next) {
			t.Fatalf("%v becomes %v, which may not be", c, next)
		}
		wasOpen, isOpen := c.State.Door > 0, next.State.Door > 0
		if deed.Opened != (isOpen && !wasOpen) || deed.Closed != (wasOpen && !isOpen) || deed.Moved != next.State.Pos-c.State.Pos {
			t.Fatalf("%v becomes %v, by %v", c, next, deed)
		}
		if deed.Moved != 0 && (wasOpen || isOpen) {
			t.Fatalf("%v becomes %v: it moves with its door open", c, next)
		}
		if next == c && deed == (car.Deed{Floor: deed.Floor}) {
			return halts, s
		}
		if deed.Opened {
			halts = append(halts, halt{deed.Floor, deed.Lantern})
			if deed.Stops == (ahead.Stops{}) {
				t.Fatalf("at %d it opens for nothing", deed.Floor)
			}
		}
		s.Car &^= deed.Stops.Car
		s.Up &^= deed.Stops.Up
		s.Down &^= deed.Stops.Down
		c = next
	}
	t.Fatalf("%v goes on without end", c)
	return nil, s
}

func TestRides(t *testing.T) {
	h := five()
	for i, x := range []struct {
		c    car.Car
		s    ahead.Stops
		want []halt
	}{
		{shut(6, none), ahead.Stops{}, nil},
		{shut(0, none), ask(2), []halt{{2, none}}},
		{shut(0, none), all(sink(1), sink(2), sink(3)), []halt{{3, down}, {2, down}, {1, down}}},
		{shut(12, none), all(rise(1), rise(2), rise(3)), []halt{{1, up}, {2, up}, {3, up}}},
		{shut(6, up), all(ask(4), ask(0), rise(3), sink(3)), []halt{{3, up}, {4, down}, {3, down}, {0, none}}},
		{shut(6, down), all(ask(4), ask(0), rise(3), sink(3)), []halt{{0, up}, {3, up}, {4, down}, {3, down}}},
		{shut(0, none), all(rise(2), sink(2)), []halt{{2, up}, {2, down}}},
		// Between floors it can't stop at the one it has left, and comes back.
		{shut(4, up), all(ask(1), ask(3)), []halt{{3, down}, {1, none}}},
		{shut(4, up), ask(1), []halt{{1, none}}},
		{shut(5, down), all(ask(2), ask(0)), []halt{{0, up}, {2, none}}},
		{lost(5, none), all(ask(2), ask(0)), []halt{{2, down}, {0, none}}},
		{lost(7, up), all(ask(2), rise(4), sink(0)), []halt{{2, none}}},
	} {
		for _, held := range []int{0, 1, 20} {
			if got, _ := ride(t, h, x.c, x.s, held); !slices.Equal(got, x.want) {
				t.Errorf("%d: %v, not %v", i, got, x.want)
			}
		}
	}
}

// TestRidesEnd: whatever may be is served, whatever may not be stays as it was.
func TestRidesEnd(t *testing.T) {
	for _, h := range append(ends(), five(), house(17, 2)) {
		top := (h.Floors - 1) * h.Speed
		for i, s := range some() {
			inside := kept(h.Floors, s)
			outside := ahead.Stops{Car: s.Car &^ inside.Car, Up: s.Up &^ inside.Up, Down: s.Down &^ inside.Down}
			for _, pos := range []int{0, top, i % (top + 1)} {
				c, _ := car.Start(h, pos)
				if _, left := ride(t, h, c, s, i%2); left != outside {
					t.Errorf("%v from %d: of %x is left %x, not %x", h, pos, s, left, outside)
				}
			}
		}
	}
}
