package eta_test

import (
	"math"
	"sync"
	"testing"

	"paternoster/ahead"
	"paternoster/api"
	"paternoster/car"
	"paternoster/eta"
	"paternoster/plan"
)

// P17.1, P17.2

// The limits and the directions, told anew.
const (
	never      = 1048576
	mostCars   = 16
	mostFloors = 64
	mostSpeed  = 8
	mostDwell  = 8
	down       = -1
	none       = 0
	up         = 1
)

// Houses

// house is one of 2 cars.
func house(floors, speed, dwell int) api.House {
	return api.House{Cars: 2, Floors: floors, Speed: speed, Dwell: dwell}
}

// five is the house that the tests play in, where nothing hangs on the house: its floors are at 0, 3, 6, 9 and 12.
func five() api.House { return house(5, 3, 4) }

// ends are the least house that there may be, the greatest, and those between with each number at one of its ends.
func ends() []api.House {
	var l []api.House
	for _, cars := range []int{1, mostCars} {
		for _, floors := range []int{2, mostFloors} {
			for _, speed := range []int{1, mostSpeed} {
				for _, dwell := range []int{1, mostDwell} {
					l = append(l, api.House{Cars: cars, Floors: floors, Speed: speed, Dwell: dwell})
				}
			}
		}
	}
	return l
}

// far are numbers far out, among them those that a narrower int would take for a number of the house five.
func far() []int {
	return []int{
		65, 66, 128, 129, 130, 256, 257, 258, 511, 1000, 1 << 16, 1<<16 + 1, 1<<16 + 2, 1<<31 - 1, 1 << 31, 1<<32 - 1, 1 << 32, 1<<32 + 1, 1<<32 + 2, 1<<32 + 6, 1 << 62, math.MaxInt - 12, math.MaxInt - 1, math.MaxInt,
		-62, -64, -254, -255, -256, -1<<16 + 2, -1 << 31, -1<<32 + 1, -1<<32 + 2, -1 << 32, -1 << 62, math.MinInt + 12, math.MinInt + 1, math.MinInt,
	}
}

// notValid are houses that are not valid, by one number, or by all.
func notValid() []api.House {
	l := []api.House{{}, {Cars: -1, Floors: -1, Speed: -1, Dwell: -1}}
	for _, n := range append(far(), 0, -1, -2) {
		l = append(l, api.House{Cars: n, Floors: 5, Speed: 3, Dwell: 4}, api.House{Cars: 2, Floors: n, Speed: 3, Dwell: 4}, api.House{Cars: 2, Floors: 5, Speed: n, Dwell: 4}, api.House{Cars: 2, Floors: 5, Speed: 3, Dwell: n}, api.House{Cars: n, Floors: n, Speed: n, Dwell: n})
	}
	return append(l, api.House{Cars: mostCars + 1, Floors: 5, Speed: 3, Dwell: 4}, house(1, 3, 4), house(mostFloors+1, 3, 4), house(5, mostSpeed+1, 4), house(5, 3, mostDwell+1))
}

// Cars

// shut is a car with its door closed.
func shut(pos, dir int) car.Car {
	return car.Car{State: api.State{Pos: pos, Dir: dir}}
}

// wide is a car with its door open.
func wide(pos, dir, left, held int) car.Car {
	return car.Car{State: api.State{Pos: pos, Dir: dir, Door: left}, Held: held}
}

// lost is a car that has to find its level first.
func lost(pos, dir int) car.Car {
	return car.Car{State: api.State{Pos: pos, Dir: dir, Relevel: true}}
}

// ways are the directions.
func ways() []int { return []int{down, none, up} }

// rightCars are those at pos that may be in h.
func rightCars(h api.House, pos int) []car.Car {
	var l []car.Car
	for _, dir := range ways() {
		l = append(l, lost(pos, dir))
		if pos%h.Speed != 0 {
			if dir != none {
				l = append(l, shut(pos, dir))
			}
			continue
		}
		l = append(l, shut(pos, dir), wide(pos, dir, 1, 0), wide(pos, dir, 1, 1), wide(pos, dir, 1, math.MaxInt))
		for left := 2; left <= h.Dwell; left++ {
			l = append(l, wide(pos, dir, left, 0))
		}
	}
	return l
}

// wrongCars are those that may not be in the house five.
func wrongCars() []car.Car {
	l := []car.Car{
		// Where it is.
		shut(-1, none), shut(-1, up), shut(-3, up), shut(13, down), shut(15, none), lost(-1, none), lost(13, none), wide(15, none, 1, 0), wide(-3, none, 4, 0),
		// Which way it goes.
		shut(6, 2), shut(6, -2), shut(4, 2), shut(4, -2), lost(4, 2), lost(6, -2), wide(6, 2, 1, 0), shut(4, none), shut(11, none),
		// How its door is.
		wide(6, none, -1, 0), wide(6, none, 5, 0), wide(6, up, 8, 0), wide(4, up, 1, 0), wide(4, down, 4, 0), wide(4, up, 1, 1),
		{State: api.State{Pos: 6, Door: 1, Relevel: true}}, {State: api.State{Pos: 6, Door: 4, Relevel: true}}, {State: api.State{Pos: 4, Dir: up, Door: 1, Relevel: true}},
		// For how long it was held.
		wide(6, up, 2, 1), wide(6, up, 4, 1), wide(6, up, 2, math.MaxInt), wide(6, up, 0, 1), wide(6, none, 0, 5), wide(0, none, 0, math.MaxInt), wide(4, up, 0, 1), {State: api.State{Pos: 4, Relevel: true}, Held: 1},
		wide(6, up, 1, -1), wide(6, up, 2, -1), wide(6, up, 0, -1), wide(6, up, 1, math.MinInt), wide(0, none, 0, math.MinInt),
	}
	for _, n := range far() {
		l = append(l, shut(n, up), shut(n, none), lost(n, down), wide(n, none, 1, 0), shut(6, n), shut(4, n), lost(4, n), wide(6, up, n, 0), wide(6, up, 2, n), wide(6, none, 0, n), wide(n, n, n, n))
	}
	return l
}

// Stops

// power is 2 as often as that floor is high.
func power(floor int) uint64 {
	n := uint64(1)
	for range floor {
		n *= 2
	}
	return n
}

// ask is a car call at that floor.
func ask(floor int) ahead.Stops { return ahead.Stops{Car: power(floor)} }

// rise is a hall call Up at that floor.
func rise(floor int) ahead.Stops { return ahead.Stops{Up: power(floor)} }

// sink is a hall call Down at that floor.
func sink(floor int) ahead.Stops { return ahead.Stops{Down: power(floor)} }

// all is each of parts together.
func all(parts ...ahead.Stops) ahead.Stops {
	var s ahead.Stops
	for _, p := range parts {
		s.Car |= p.Car
		s.Up |= p.Up
		s.Down |= p.Down
	}
	return s
}

// full is with all there is.
func full() ahead.Stops {
	return ahead.Stops{Car: math.MaxUint64, Up: math.MaxUint64, Down: math.MaxUint64}
}

// outside is with all that there is not in a house of so many floors.
func outside(floors int) ahead.Stops {
	s := ahead.Stops{Up: power(floors - 1), Down: 1}
	for floor := floors; floor < mostFloors; floor++ {
		s = all(s, ask(floor), rise(floor), sink(floor))
	}
	return s
}

// some are stops of all sorts: none, all, all of one sort, and mixed ones.
func some() []ahead.Stops {
	l := []ahead.Stops{{}, full(), {Car: math.MaxUint64}, {Up: math.MaxUint64}, {Down: math.MaxUint64}, {Up: math.MaxUint64, Down: math.MaxUint64}}
	for floor := 0; floor < mostFloors; floor += 5 {
		n := power(floor)
		l = append(l, ask(floor), rise(floor), sink(floor),
			ahead.Stops{Car: n * 0x9e3779b97f4a7c15, Up: n * 0x0123456789abcdef, Down: n * 0x00f0000010000201},
			ahead.Stops{Car: n - 1, Up: -n}, ahead.Stops{Up: n - 1, Down: -n}, ahead.Stops{Car: -n, Down: n - 1})
	}
	return l
}

// Calls

// rises is the call Up at that floor.
func rises(floor int) api.Call { return api.Call{Floor: floor, Dir: up} }

// sinks is the call Down at that floor.
func sinks(floor int) api.Call { return api.Call{Floor: floor, Dir: down} }

// may is each call that may be in a house of so many floors.
func may(floors int) []api.Call {
	l := []api.Call{rises(0), sinks(floors - 1)}
	for floor := 1; floor < floors-1; floor++ {
		l = append(l, sinks(floor), rises(floor))
	}
	return l
}

// mayNot are calls that may not be in a house of so many floors.
func mayNot(floors int) []api.Call {
	l := []api.Call{rises(floors - 1), sinks(0)}
	for floor := range floors {
		for _, dir := range append(far(), none, 2, -2, 3, -3) {
			l = append(l, api.Call{Floor: floor, Dir: dir})
		}
	}
	for _, floor := range append(far(), -1, -2, floors, floors+1, mostFloors) {
		if floor < 0 || floor >= floors {
			l = append(l, rises(floor), sinks(floor), api.Call{Floor: floor}, api.Call{Floor: floor, Dir: floor})
		}
	}
	return l
}

// What is held against what

// of holds what Of answers against how many ticks it has to be.
func of(t *testing.T, h api.House, c car.Car, s ahead.Stops, to api.Call, want int) {
	t.Helper()
	if got := eta.Of(h, c, s, to); got != want {
		t.Errorf("Of(%v, %v, %x, %v) = %d, not %d", h, c, s, to, got, want)
	}
}

// takes is of, and as much of a Run.
func takes(t *testing.T, h api.House, c car.Car, s ahead.Stops, to api.Call, want int) {
	t.Helper()
	of(t, h, c, s, to, want)
	runs(t, eta.New(h, c, s, to), want)
}

// runs holds what a new Run answers against how many ticks it has to be.
func runs(t *testing.T, r *eta.Run, want int) {
	t.Helper()
	if n := r.Times(); n != 0 {
		t.Errorf("ahead of any Ticks: Times() = %d", n)
	}
	for range 3 {
		if got, n := r.Ticks(), r.Times(); got != want || n != 1 {
			t.Errorf("Ticks() = %d, not %d; Times() = %d", got, want, n)
		}
	}
}

// Of, ride by ride

// leg is a ride, and how many ticks it takes.
type leg struct {
	c    car.Car
	s    ahead.Stops
	to   api.Call
	want int
}

// legs holds each of l against what Of answers.
func legs(t *testing.T, h api.House, l []leg) {
	t.Helper()
	for _, x := range l {
		takes(t, h, x.c, x.s, x.to, x.want)
	}
}

func TestOfWhereTheCarStands(t *testing.T) {
	legs(t, five(), []leg{
		{car.Car{}, ahead.Stops{}, rises(0), 1}, {shut(12, none), ahead.Stops{}, sinks(4), 1}, {shut(6, none), ahead.Stops{}, sinks(2), 1}, {shut(6, none), ahead.Stops{}, rises(2), 1},
		{shut(6, up), ahead.Stops{}, rises(2), 1}, {shut(6, up), ahead.Stops{}, sinks(2), 1}, {shut(6, down), ahead.Stops{}, rises(2), 1}, {shut(6, down), ahead.Stops{}, sinks(2), 1},
		{lost(6, none), ahead.Stops{}, sinks(2), 1}, {lost(6, up), ahead.Stops{}, sinks(2), 1}, {lost(0, down), ahead.Stops{}, rises(0), 1},
		// An open door closes, and opens anew for it.
		{wide(0, none, 4, 0), ahead.Stops{}, rises(0), 5}, {wide(6, up, 4, 0), ahead.Stops{}, rises(2), 5}, {wide(6, up, 3, 0), ahead.Stops{}, sinks(2), 4}, {wide(6, down, 2, 0), ahead.Stops{}, sinks(2), 3},
		{wide(6, up, 1, 0), ahead.Stops{}, rises(2), 2}, {wide(6, none, 1, 1), ahead.Stops{}, rises(2), 2}, {wide(0, none, 1, 9), ahead.Stops{}, rises(0), 2}, {wide(12, up, 1, 13), ahead.Stops{}, sinks(4), 2}, {wide(6, down, 1, math.MaxInt), ahead.Stops{}, sinks(2), 2},
		// A car call there changes nothing.
		{shut(6, up), ask(2), sinks(2), 1}, {shut(6, none), ask(2), rises(2), 1}, {wide(6, none, 4, 0), ask(2), rises(2), 5},
		// Who has no direction takes Up first; who has one goes on in it first.
		{shut(6, none), sink(2), rises(2), 1}, {shut(6, none), rise(2), sinks(2), 6}, {shut(6, up), rise(2), sinks(2), 6}, {shut(6, down), sink(2), rises(2), 6}, {shut(6, down), rise(2), sinks(2), 1}, {wide(6, up, 4, 0), rise(2), sinks(2), 10},
		// What lies ahead comes first, if the call goes the other way.
		{shut(6, up), ask(4), rises(2), 1}, {shut(6, up), ask(4), sinks(2), 18}, {wide(6, up, 4, 0), ask(4), rises(2), 5}, {wide(6, up, 4, 0), ask(4), sinks(2), 22}, {shut(6, down), ask(1), rises(2), 12}, {shut(6, down), ask(3), rises(2), 1},
	})
}

func TestOfAboveAndBelow(t *testing.T) {
	legs(t, five(), []leg{
		{car.Car{}, ahead.Stops{}, rises(1), 4}, {car.Car{}, ahead.Stops{}, sinks(1), 4}, {car.Car{}, ahead.Stops{}, rises(2), 7}, {car.Car{}, ahead.Stops{}, sinks(2), 7}, {car.Car{}, ahead.Stops{}, sinks(4), 13},
		{shut(12, none), ahead.Stops{}, sinks(3), 4}, {shut(12, none), ahead.Stops{}, rises(3), 4}, {shut(12, up), ahead.Stops{}, rises(0), 13}, {shut(6, up), ahead.Stops{}, sinks(1), 4}, {shut(6, down), ahead.Stops{}, sinks(3), 4},
		{wide(0, up, 4, 0), ahead.Stops{}, rises(1), 8}, {wide(6, none, 1, 5), ahead.Stops{}, rises(0), 8},
		// From between floors: on to the next one, wherever the call is.
		{shut(4, up), ahead.Stops{}, rises(2), 3}, {shut(4, up), ahead.Stops{}, sinks(2), 3}, {shut(5, up), ahead.Stops{}, sinks(4), 8}, {shut(4, up), ahead.Stops{}, rises(1), 6}, {shut(5, up), ahead.Stops{}, rises(1), 5}, {shut(5, up), ahead.Stops{}, sinks(1), 5}, {shut(11, up), ahead.Stops{}, rises(0), 14},
		{shut(4, down), ahead.Stops{}, rises(1), 2}, {shut(4, down), ahead.Stops{}, sinks(1), 2}, {shut(4, down), ahead.Stops{}, rises(2), 5}, {shut(1, down), ahead.Stops{}, rises(0), 2}, {shut(1, down), ahead.Stops{}, sinks(4), 14},
		// With its level to find: down, whichever way it went.
		{lost(4, none), ahead.Stops{}, rises(1), 2}, {lost(4, up), ahead.Stops{}, sinks(1), 2}, {lost(5, down), ahead.Stops{}, rises(1), 3}, {lost(4, up), ahead.Stops{}, rises(2), 5}, {lost(5, none), ahead.Stops{}, sinks(2), 6}, {lost(11, none), ahead.Stops{}, sinks(4), 6}, {lost(2, up), ahead.Stops{}, rises(0), 3},
		// At its level it has no direction: the nearest comes first, up if as near.
		{lost(5, up), all(ask(0), ask(2)), rises(0), 17}, {lost(5, up), all(ask(0), ask(3)), rises(0), 6}, {lost(5, up), all(ask(0), ask(3)), sinks(3), 20},
		// At a level already it keeps its direction.
		{lost(6, up), all(ask(0), ask(3)), sinks(1), 15}, {lost(6, down), all(ask(0), ask(3)), sinks(1), 4},
	})
	legs(t, house(5, 1, 4), []leg{
		{car.Car{}, ahead.Stops{}, rises(1), 2}, {car.Car{}, ahead.Stops{}, sinks(4), 5}, {shut(4, none), ahead.Stops{}, rises(0), 5}, {shut(2, up), ahead.Stops{}, rises(1), 2}, {car.Car{}, ask(1), rises(2), 8}, {lost(3, up), ahead.Stops{}, rises(1), 3},
	})
	legs(t, house(5, 8, 1), []leg{
		{car.Car{}, ahead.Stops{}, rises(1), 9}, {car.Car{}, ahead.Stops{}, sinks(4), 33}, {car.Car{}, ask(1), rises(2), 19}, {shut(9, up), ahead.Stops{}, rises(1), 16}, {shut(15, down), ahead.Stops{}, rises(1), 8}, {lost(15, up), ahead.Stops{}, sinks(2), 16}, {wide(8, none, 1, 0), ahead.Stops{}, rises(1), 2},
	})
}

func TestOfWithStopsOnTheWay(t *testing.T) {
	legs(t, five(), []leg{
		{car.Car{}, ask(1), rises(2), 12}, {car.Car{}, all(ask(1), ask(3)), sinks(4), 23}, {car.Car{}, ask(2), rises(2), 7}, {car.Car{}, ask(2), sinks(2), 7}, {car.Car{}, ask(3), rises(2), 7}, {car.Car{}, ask(4), sinks(2), 24},
		{car.Car{}, rise(1), rises(2), 12}, {car.Car{}, sink(1), rises(2), 7}, {car.Car{}, sink(1), sinks(2), 7}, {car.Car{}, sink(3), rises(2), 7}, {car.Car{}, sink(3), sinks(2), 18}, {car.Car{}, rise(3), sinks(2), 18}, {car.Car{}, all(rise(3), sink(3)), sinks(2), 23},
		// A car call and a hall call at one floor are served at once.
		{car.Car{}, all(ask(1), rise(1)), rises(2), 12}, {car.Car{}, all(ask(1), rise(1), sink(1)), rises(2), 12},
		// To itself among them already.
		{car.Car{}, rise(2), rises(2), 7}, {car.Car{}, sink(2), sinks(2), 7}, {car.Car{}, all(rise(1), rise(2), ask(2)), rises(2), 12}, {car.Car{}, rise(0), rises(0), 1},
		// On its way towards it, and away from it.
		{shut(6, down), ask(0), rises(1), 15}, {shut(6, down), ask(0), sinks(1), 4}, {shut(6, up), ask(4), rises(1), 21}, {shut(6, up), ask(4), sinks(1), 21}, {shut(4, up), all(ask(1), ask(3)), rises(1), 17}, {shut(5, down), all(ask(2), ask(0)), sinks(2), 17}, {shut(5, up), all(ask(1), ask(3)), sinks(4), 13},
		// It opens there for the other way first, and comes back.
		{car.Car{}, rise(2), sinks(2), 12}, {car.Car{}, all(rise(2), rise(3)), sinks(2), 23}, {car.Car{}, all(ask(2), ask(4)), sinks(2), 29}, {car.Car{}, all(ask(2), rise(2), ask(4)), sinks(2), 29}, {shut(12, none), sink(2), rises(2), 12}, {shut(12, none), all(sink(2), ask(0)), rises(2), 29}, {shut(12, down), all(ask(2), sink(1)), rises(2), 23},
	})
}

func TestOfWithStopsThatTheHouseLacks(t *testing.T) {
	legs(t, five(), []leg{
		{car.Car{}, outside(5), rises(0), 1}, {car.Car{}, outside(5), sinks(4), 13}, {car.Car{}, outside(5), sinks(2), 7}, {shut(6, up), outside(5), sinks(2), 1}, {shut(6, up), outside(5), sinks(1), 4}, {shut(6, down), outside(5), rises(2), 1}, {shut(6, down), outside(5), rises(3), 4},
		{shut(12, up), ask(5), sinks(4), 1}, {shut(12, up), rise(4), sinks(4), 1}, {shut(0, down), sink(0), rises(0), 1}, {shut(6, none), sink(0), rises(0), 7}, {shut(6, none), rise(4), sinks(4), 7}, {shut(6, up), ask(63), sinks(2), 1}, {shut(6, up), sink(5), rises(1), 4}, {car.Car{}, all(outside(5), ask(1)), rises(2), 12},
	})
	for _, h := range []api.House{house(2, 1, 1), house(2, 8, 8), house(31, 2, 2), house(32, 1, 3), house(33, 3, 1), house(63, 1, 1), house(64, 8, 8)} {
		for _, to := range may(h.Floors) {
			for _, floor := range []int{0, h.Floors / 2, h.Floors - 1} {
				for _, dir := range ways() {
					away := max(to.Floor-floor, floor-to.Floor)
					takes(t, h, shut(floor*h.Speed, dir), outside(h.Floors), to, away*h.Speed+1)
				}
			}
		}
	}
}

func TestOfWithStopsOfAllFloors(t *testing.T) {
	for _, h := range ends() {
		// It opens, stays open, goes on.
		each, last := 1+h.Dwell+h.Speed, h.Floors-1
		legs(t, h, []leg{
			{car.Car{}, full(), rises(0), 1}, {car.Car{}, full(), sinks(last), last*each + 1}, {shut(last*h.Speed, none), full(), sinks(last), 1}, {shut(last*h.Speed, none), full(), rises(0), last*each + 1},
			{car.Car{}, full(), sinks(1), (2*last-1)*each + 1}, {shut(last*h.Speed, none), full(), rises(last - 1), (2*last-1)*each + 1}, {wide(0, up, h.Dwell, 0), full(), sinks(1), h.Dwell + (2*last-1)*each + 1}, {wide(0, up, 1, 77), full(), rises(last - 1), 1 + (last-1)*each + 1},
		})
	}
	legs(t, api.House{Cars: 1, Floors: 64, Speed: 8, Dwell: 8}, []leg{
		{car.Car{}, full(), sinks(1), 2126}, {shut(504, none), full(), rises(62), 2126}, {shut(9, up), full(), rises(1), 2133}, {lost(503, up), full(), sinks(63), 25}, {shut(503, down), full(), sinks(63), 7 + 62*17 + 63*17 + 1},
	})
	legs(t, api.House{Cars: 1, Floors: 2, Speed: 1, Dwell: 1}, []leg{
		{car.Car{}, full(), sinks(1), 4}, {shut(1, none), full(), rises(0), 4}, {wide(1, down, 1, 0), full(), rises(0), 5}, {shut(1, up), full(), sinks(1), 1},
	})
}

// Of, all over

// alone is how many ticks it takes with no other stops: the door closes, the car goes on to the next floor, and from there to the call.
func alone(h api.House, c car.Car, to api.Call) int {
	ticks, pos := c.State.Door, c.State.Pos
	for pos%h.Speed != 0 {
		if c.State.Relevel || c.State.Dir == down {
			pos--
		} else {
			pos++
		}
		ticks++
	}
	return ticks + max(pos-to.Floor*h.Speed, to.Floor*h.Speed-pos) + 1
}

func TestOfWithNoOtherStops(t *testing.T) {
	for _, h := range append(ends(), five(), house(3, 2, 3), house(17, 5, 2), house(33, 3, 1)) {
		calls := may(h.Floors)
		for pos := range (h.Floors-1)*h.Speed + 1 {
			for i, c := range rightCars(h, pos) {
				for k := (pos + i) % 2; k < len(calls); k += 2 + len(calls)/7 {
					of(t, h, c, ahead.Stops{}, calls[k], alone(h, c, calls[k]))
				}
			}
		}
	}
}

// told tells floor by floor how many ticks it takes: a tick to open, Dwell till it is closed again, Speed to the next floor.
func told(h api.House, c car.Car, s ahead.Stops, to api.Call) int {
	// From between floors it goes to the next one.
	floor, dir, ticks := c.State.Pos/h.Speed, c.State.Dir, c.State.Door
	over := c.State.Pos % h.Speed
	switch {
	case over > 0 && c.State.Relevel:
		dir, ticks = none, over
	case over > 0 && dir == down:
		ticks = over
	case over > 0:
		floor, ticks = floor+1, h.Speed-over
	}
	s = kept(h.Floors, ahead.Put(s, to))
	for {
		do := plan.At(s, floor, dir)
		dir = do.Dir
		if !do.Stop {
			floor, ticks = floor+do.Move, ticks+h.Speed
			continue
		}
		if floor == to.Floor && dir == to.Dir {
			return ticks + 1
		}
		s, ticks = served(s, floor, dir), ticks+1+h.Dwell
	}
}

// kept is what of s may be in a house of so many floors.
func kept(floors int, s ahead.Stops) ahead.Stops {
	no := outside(floors)
	return ahead.Stops{Car: s.Car &^ no.Car, Up: s.Up &^ no.Up, Down: s.Down &^ no.Down}
}

// served is s but for what is served at floor.
func served(s ahead.Stops, floor, lantern int) ahead.Stops {
	s.Car &^= power(floor)
	switch lantern {
	case up:
		s.Up &^= power(floor)
	case down:
		s.Down &^= power(floor)
	}
	return s
}

// TestOfInTheLeastHouses takes each car with whatever stops there may be, and such as may not.
func TestOfInTheLeastHouses(t *testing.T) {
	for _, h := range []api.House{house(2, 1, 1), house(2, 3, 2), house(3, 2, 1)} {
		many := power(h.Floors + 1)
		for n := range many * many * many {
			s := ahead.Stops{Car: n % many, Up: n / many % many, Down: n / many / many}
			for pos := range (h.Floors-1)*h.Speed + 1 {
				for _, c := range rightCars(h, pos) {
					for _, to := range may(h.Floors) {
						of(t, h, c, s, to, told(h, c, s, to))
					}
				}
			}
		}
	}
}

// TestOfInManyHouses takes stops of all sorts, and cars and calls from all over the house.
func TestOfInManyHouses(t *testing.T) {
	for _, h := range append(ends(), five(), house(17, 2, 3), house(32, 5, 1), house(33, 1, 6), house(63, 3, 2)) {
		calls := may(h.Floors)
		for i, s := range some() {
			for pos := i % 7; pos <= (h.Floors-1)*h.Speed; pos += 1 + h.Floors*h.Speed/4 {
				for k, c := range rightCars(h, pos) {
					to := calls[(i+k*31+pos)%len(calls)]
					of(t, h, c, s, to, told(h, c, s, to))
				}
			}
		}
	}
}

// TestOfGoesOnByTicks has a car that is ticked be as near as it was told: each tick takes one, till it opens.
func TestOfGoesOnByTicks(t *testing.T) {
	for _, h := range []api.House{five(), house(2, 8, 8), house(9, 1, 1)} {
		for i, to := range may(h.Floors) {
			for _, s := range some() {
				c, s := shut(i%h.Floors*h.Speed, up), ahead.Put(s, to)
				for n := eta.Of(h, c, s, to); n > 0; n-- {
					takes(t, h, c, s, to, n)
					next, deed := car.Tick(h, c, s, false)
					if is := deed.Opened && deed.Floor == to.Floor && deed.Lantern == to.Dir; is != (n == 1) {
						t.Fatalf("%v, %v, %x, %v: %d ticks ahead it is %v", h, c, s, to, n, deed)
					}
					c, s = next, ahead.Stops{Car: s.Car &^ deed.Stops.Car, Up: s.Up &^ deed.Stops.Up, Down: s.Down &^ deed.Stops.Down}
				}
			}
		}
	}
}

// Of what may not be

func TestOfACallThatMayNotBe(t *testing.T) {
	if api.MaxTicks != never {
		t.Error(api.MaxTicks)
	}
	for _, h := range append(ends(), five(), house(17, 2, 3)) {
		for _, to := range mayNot(h.Floors) {
			for _, s := range []ahead.Stops{{}, full()} {
				for _, c := range []car.Car{{}, shut((h.Floors-1)*h.Speed, up), wide(0, none, 1, 0)} {
					takes(t, h, c, s, to, never)
				}
			}
		}
	}
	// Where the car stands, and where it is asked to go too.
	legs(t, five(), []leg{
		{car.Car{}, sink(0), sinks(0), never}, {shut(12, up), rise(4), rises(4), never}, {shut(12, none), ask(4), api.Call{Floor: 4}, never}, {shut(6, none), ask(2), api.Call{Floor: 2}, never}, {car.Car{}, ask(5), sinks(5), never}, {shut(12, up), ask(5), rises(5), never}, {car.Car{}, ask(63), sinks(63), never},
	})
}

// TestOfEachCall asks for each call in and around a house: it takes that long just where the call may not be.
func TestOfEachCall(t *testing.T) {
	for floors := 2; floors <= mostFloors; floors++ {
		h := house(floors, 1, 1)
		for floor := -2; floor <= mostFloors+2; floor++ {
			for dir := -2; dir <= 2; dir++ {
				want := never
				if dir == up && floor >= 0 && floor < floors-1 || dir == down && floor > 0 && floor < floors {
					want = floor + 1
				}
				takes(t, h, car.Car{}, ahead.Stops{}, api.Call{Floor: floor, Dir: dir}, want)
			}
		}
	}
}

func TestOfACarThatMayNotBe(t *testing.T) {
	for _, c := range wrongCars() {
		for _, s := range []ahead.Stops{{}, full(), ask(2), outside(5)} {
			for _, to := range append(may(5), sinks(0), rises(4), rises(-1), sinks(5), api.Call{Floor: 2}) {
				takes(t, five(), c, s, to, never)
			}
		}
	}
}

func TestOfInNoHouse(t *testing.T) {
	for _, h := range notValid() {
		for _, c := range []car.Car{{}, shut(6, up), shut(4, up), lost(4, none), wide(6, up, 1, 0), wide(6, up, 1, 3), shut(-1, 7)} {
			for _, s := range []ahead.Stops{{}, full()} {
				for _, to := range []api.Call{rises(0), sinks(1), rises(2), sinks(4), sinks(0), {}, rises(-1), sinks(math.MaxInt), rises(math.MinInt), {Floor: 2, Dir: math.MaxInt}} {
					takes(t, h, c, s, to, never)
				}
			}
		}
	}
}

// Ticks and Times

func TestTimes(t *testing.T) {
	r := eta.New(five(), car.Car{}, ask(1), rises(2))
	for range 3 {
		if n := r.Times(); n != 0 {
			t.Fatal(n)
		}
	}
	for range 100 {
		if got := r.Ticks(); got != 12 {
			t.Fatal(got)
		}
	}
	for range 3 {
		if n := r.Times(); n != 1 {
			t.Fatal(n)
		}
	}
}

// TestTimesOfWhatMayNotBe: it is reckoned too, once.
func TestTimesOfWhatMayNotBe(t *testing.T) {
	runs(t, eta.New(five(), car.Car{}, full(), sinks(0)), never)
	runs(t, eta.New(five(), shut(4, none), full(), rises(0)), never)
	runs(t, eta.New(api.House{}, car.Car{}, ahead.Stops{}, api.Call{}), never)
}

// TestRunsAreApart: of the same values, and of others.
func TestRunsAreApart(t *testing.T) {
	one, two := eta.New(five(), car.Car{}, ask(1), rises(2)), eta.New(five(), car.Car{}, ask(1), rises(2))
	other := eta.New(five(), car.Car{}, ask(1), sinks(4))
	if one == two {
		t.Error("the same one")
	}
	if got := one.Ticks(); got != 12 || one.Times() != 1 || two.Times() != 0 || other.Times() != 0 {
		t.Error(got, one.Times(), two.Times(), other.Times())
	}
	runs(t, other, 18)
	runs(t, two, 12)
	if got := one.Ticks(); got != 12 || one.Times() != 1 {
		t.Error(got, one.Times())
	}
}

// TestRunKeepsItsValues: what becomes of those that were handed in is nothing to it.
func TestRunKeepsItsValues(t *testing.T) {
	h, c, s, to := five(), car.Car{}, ask(1), rises(2)
	r := eta.New(h, c, s, to)
	h, c, s, to = api.House{}, shut(-1, 9), full(), sinks(0)
	takes(t, h, c, s, to, never)
	runs(t, r, 12)
}

// TestTicksAtTheSameTime has several ask, some of whom read Times on the way.
func TestTicksAtTheSameTime(t *testing.T) {
	h := api.House{Cars: 1, Floors: 64, Speed: 8, Dwell: 8}
	for _, x := range []leg{{car.Car{}, full(), sinks(1), 2126}, {car.Car{}, ahead.Stops{}, rises(0), 1}, {car.Car{}, full(), sinks(0), never}, {shut(9, up), full(), rises(1), 2133}} {
		for range 25 {
			r := eta.New(h, x.c, x.s, x.to)
			var wait sync.WaitGroup
			begin := make(chan struct{})
			for range 16 {
				wait.Go(func() {
					<-begin
					if n := r.Times(); n != 0 && n != 1 {
						t.Errorf("Times() = %d", n)
					}
					if got, n := r.Ticks(), r.Times(); got != x.want || n != 1 {
						t.Errorf("Ticks() = %d, not %d; Times() = %d", got, x.want, n)
					}
				})
			}
			close(begin)
			wait.Wait()
			if got, n := r.Ticks(), r.Times(); got != x.want || n != 1 {
				t.Errorf("Ticks() = %d, not %d; Times() = %d", got, x.want, n)
			}
		}
	}
}
