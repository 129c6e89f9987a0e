package plan_test

import (
	"math"
	"slices"
	"testing"

	"paternoster/ahead"
	"paternoster/plan"
)

// P15.1, P15.2

// The limit and the directions, told anew.
const (
	mostFloors = 64
	last       = mostFloors - 1
	down       = -1
	none       = 0
	up         = 1
)

// ways are the directions.
func ways() []int {
	return []int{down, none, up}
}

// outside are numbers that are no floors, among them those that a narrower int, or a shift that goes round, would take for one.
func outside() []int {
	return []int{
		-1, -2, -3, -8, -62, -63, -64, -65, -66, -127, -128, -129, -255, -256, -257, -1<<16 + 2, -1 << 31, -1<<31 - 1, -1<<32 + 2, -1 << 32, -1 << 62, math.MinInt + 63, math.MinInt + 2, math.MinInt + 1, math.MinInt,
		64, 65, 66, 67, 127, 128, 129, 191, 192, 255, 256, 257, 1<<16 + 2, 1<<31 - 1, 1 << 31, 1<<32 - 1, 1 << 32, 1<<32 + 2, 1<<32 + 63, 1 << 40, 1 << 62, math.MaxInt - 64, math.MaxInt - 63, math.MaxInt - 1, math.MaxInt,
	}
}

// noWays are numbers that are no direction.
func noWays() []int {
	return []int{2, -2, 3, -3, 64, 127, 128, 255, 256, 257, -255, -256, -257, 1 << 16, 1<<16 + 1, 1 << 32, 1<<32 - 1, 1<<32 + 1, -1 << 32, -1<<32 - 1, -1<<32 + 1, 1 << 62, math.MaxInt, math.MaxInt - 1, math.MinInt, math.MinInt + 1}
}

// power is 2 as often as that floor is high.
func power(floor int) uint64 {
	n := uint64(1)
	for range floor {
		n *= 2
	}
	return n
}

// car is a car call at that floor.
func car(floor int) ahead.Stops { return ahead.Stops{Car: power(floor)} }

// rise is a hall call Up at that floor.
func rise(floor int) ahead.Stops { return ahead.Stops{Up: power(floor)} }

// sink is a hall call Down at that floor.
func sink(floor int) ahead.Stops { return ahead.Stops{Down: power(floor)} }

// all is each of parts together.
func all(parts ...ahead.Stops) ahead.Stops {
	var s ahead.Stops
	for _, p := range parts {
		s.Car |= p.Car
		s.Up |= p.Up
		s.Down |= p.Down
	}
	return s
}

// sorts are one at that floor, of each of the three sorts.
func sorts(floor int) []ahead.Stops {
	return []ahead.Stops{car(floor), rise(floor), sink(floor)}
}

// full is with all there is.
func full() ahead.Stops {
	return ahead.Stops{Car: math.MaxUint64, Up: math.MaxUint64, Down: math.MaxUint64}
}

// in is whether floor stands in the number n, bit for bit told by halving.
func in(n uint64, floor int) bool {
	return n/power(floor)%2 == 1
}

// some is whether there is something at floor.
func some(s ahead.Stops, floor int) bool {
	return in(s.Car, floor) || in(s.Up, floor) || in(s.Down, floor)
}

// at holds what At answers against what it has to.
func at(t *testing.T, s ahead.Stops, floor, dir int, want plan.Deed) {
	t.Helper()
	if got := plan.At(s, floor, dir); got != want {
		t.Errorf("At(%x, %d, %d) = %v, not %v", s, floor, dir, got, want)
	}
}

// stop is that of a car which stops, and then has the direction dir.
func stop(dir int) plan.Deed { return plan.Deed{Stop: true, Dir: dir} }

// move is that of a car which goes on in the direction dir.
func move(dir int) plan.Deed { return plan.Deed{Dir: dir, Move: dir} }

// What is asked for wrongly

// TestNoFloor: the zero value, whatever the stops.
func TestNoFloor(t *testing.T) {
	for _, floor := range outside() {
		for _, dir := range ways() {
			at(t, ahead.Stops{}, floor, dir, plan.Deed{})
			at(t, full(), floor, dir, plan.Deed{})
			for f := range mostFloors {
				for _, s := range sorts(f) {
					at(t, s, floor, dir, plan.Deed{})
				}
			}
		}
	}
}

// TestNoDir: the zero value, whatever the stops.
func TestNoDir(t *testing.T) {
	for _, dir := range noWays() {
		for floor := range mostFloors {
			at(t, ahead.Stops{}, floor, dir, plan.Deed{})
			at(t, full(), floor, dir, plan.Deed{})
			for f := range mostFloors {
				for _, s := range sorts(f) {
					at(t, s, floor, dir, plan.Deed{})
				}
			}
		}
		for _, floor := range outside() {
			at(t, full(), floor, dir, plan.Deed{})
		}
	}
}

// What is done

func TestNothingAnywhere(t *testing.T) {
	for floor := range mostFloors {
		for _, dir := range ways() {
			at(t, ahead.Stops{}, floor, dir, plan.Deed{})
			at(t, ahead.Of(nil, nil), floor, dir, plan.Deed{})
			at(t, ahead.Of([]int{-1, mostFloors}, nil), floor, dir, plan.Deed{})
		}
	}
}

// TestCarCallHere: with nothing else, it stops, and has no direction then.
func TestCarCallHere(t *testing.T) {
	for floor := range mostFloors {
		for _, dir := range ways() {
			at(t, car(floor), floor, dir, stop(none))
		}
	}
}

// TestSomethingAhead: of whichever sort, and whatever lies behind, the car keeps its way.
func TestSomethingAhead(t *testing.T) {
	for _, over := range sorts(9) {
		at(t, over, 5, up, move(up))
		at(t, over, 8, up, move(up))
		for _, under := range sorts(2) {
			s := all(over, under)
			at(t, under, 5, down, move(down))
			at(t, under, 3, down, move(down))
			at(t, s, 5, up, move(up))
			at(t, s, 5, down, move(down))
			// Farther ahead than behind is ahead all the same.
			at(t, s, 3, up, move(up))
			at(t, s, 8, down, move(down))
			at(t, all(s, car(5)), 5, up, stop(up))
			at(t, all(s, car(5)), 5, down, stop(down))
			at(t, all(s, rise(5)), 5, up, stop(up))
			at(t, all(s, sink(5)), 5, down, stop(down))
			// Against its way it does not stop.
			at(t, all(s, sink(5)), 5, up, move(up))
			at(t, all(s, rise(5)), 5, down, move(down))
			at(t, all(s, rise(5), sink(5)), 5, up, stop(up))
			at(t, all(s, rise(5), sink(5)), 5, down, stop(down))
			at(t, all(s, car(5), sink(5)), 5, up, stop(up))
			at(t, all(s, car(5), rise(5)), 5, down, stop(down))
		}
	}
}

// TestCallOfItsWayHere: nothing ahead, but one waits here to go on: the way is kept.
func TestCallOfItsWayHere(t *testing.T) {
	at(t, rise(5), 5, up, stop(up))
	at(t, sink(5), 5, down, stop(down))
	at(t, all(rise(5), car(5)), 5, up, stop(up))
	at(t, all(sink(5), car(5)), 5, down, stop(down))
	at(t, all(rise(5), sink(5)), 5, up, stop(up))
	at(t, all(rise(5), sink(5)), 5, down, stop(down))
	for i := range 3 {
		over, under := sorts(6)[i], sorts(4)[i]
		at(t, all(rise(5), under), 5, up, stop(up))
		at(t, all(sink(5), over), 5, down, stop(down))
		at(t, all(rise(5), sink(5), under), 5, up, stop(up))
		at(t, all(rise(5), sink(5), over), 5, down, stop(down))
	}
}

// TestTurn: nothing ahead, and nobody here who would go on.
func TestTurn(t *testing.T) {
	at(t, sink(5), 5, up, stop(down))
	at(t, rise(5), 5, down, stop(up))
	at(t, all(sink(5), car(5)), 5, up, stop(down))
	at(t, all(rise(5), car(5)), 5, down, stop(up))
	for i := range 3 {
		over, under := sorts(9)[i], sorts(2)[i]
		at(t, under, 5, up, move(down))
		at(t, over, 5, down, move(up))
		at(t, all(under, sink(5)), 5, up, stop(down))
		at(t, all(over, rise(5)), 5, down, stop(up))
		at(t, all(under, car(5)), 5, up, stop(down))
		at(t, all(over, car(5)), 5, down, stop(up))
		at(t, all(under, car(5), sink(5)), 5, up, stop(down))
		at(t, all(over, car(5), rise(5)), 5, down, stop(up))
	}
}

func TestWithNoWay(t *testing.T) {
	for _, x := range []struct {
		s    ahead.Stops
		want plan.Deed
	}{
		// Somebody here comes ahead of all else, who goes up ahead of who goes down.
		{rise(5), stop(up)}, {sink(5), stop(down)}, {all(rise(5), sink(5)), stop(up)},
		{all(rise(5), car(4)), stop(up)}, {all(sink(5), car(6)), stop(down)}, {all(rise(5), sink(5), car(4)), stop(up)}, {all(rise(5), sink(5), car(6)), stop(up)},
		{all(rise(5), sink(4)), stop(up)}, {all(sink(5), rise(6)), stop(down)}, {all(rise(5), car(5)), stop(up)}, {all(sink(5), car(5)), stop(down)}, {all(sink(5), car(5), car(6)), stop(down)},
		// One side alone.
		{car(6), move(up)}, {car(4), move(down)}, {rise(4), move(down)}, {sink(6), move(up)}, {rise(63), move(up)}, {sink(0), move(down)},
		// The nearer of both; as near, up.
		{all(car(2), car(6)), move(up)}, {all(car(4), car(8)), move(down)}, {all(car(2), car(8)), move(up)}, {all(car(4), car(6)), move(up)},
		{all(sink(2), rise(7)), move(up)}, {all(rise(3), sink(8)), move(down)}, {all(rise(3), sink(7)), move(up)}, {all(sink(0), car(11)), move(down)}, {all(sink(0), car(10)), move(up)},
		{all(car(0), car(1), car(2), rise(6), sink(4)), move(up)}, {all(car(7), car(8), car(9), rise(4)), move(down)},
		// With a car call here it stops, and has that direction then.
		{car(5), stop(none)}, {all(car(5), car(6)), stop(up)}, {all(car(5), sink(4)), stop(down)}, {all(car(5), car(4), car(8)), stop(down)}, {all(car(5), car(4), car(6)), stop(up)},
	} {
		at(t, x.s, 5, none, x.want)
	}
}

// TestFirstAndLastFloor: where nothing lies below, and nothing above.
func TestFirstAndLastFloor(t *testing.T) {
	for _, dir := range ways() {
		for i := range 3 {
			over, under, first, top := sorts(1)[i], sorts(last - 1)[i], sorts(0)[i], sorts(last)[i]
			at(t, over, 0, dir, move(up))
			at(t, top, 0, dir, move(up))
			at(t, under, last, dir, move(down))
			at(t, first, last, dir, move(down))
			at(t, all(over, car(0)), 0, dir, stop(up))
			at(t, all(under, car(last)), last, dir, stop(down))
		}
		at(t, rise(0), 0, dir, stop(up))
		at(t, sink(last), last, dir, stop(down))
		at(t, all(rise(0), car(0), car(last)), 0, dir, stop(up))
		at(t, all(sink(last), car(last), car(0)), last, dir, stop(down))
	}
	at(t, full(), 0, up, stop(up))
	at(t, full(), 0, down, stop(down))
	at(t, full(), last, down, stop(down))
	at(t, full(), last, up, stop(up))
}

// TestOutOfTheHouse: a hall call Up at the last floor, and Down at 0, is one as any other here.
func TestOutOfTheHouse(t *testing.T) {
	for _, dir := range ways() {
		at(t, rise(last), last, dir, stop(up))
		at(t, sink(0), 0, dir, stop(down))
	}
	at(t, all(rise(last), car(5)), last, none, stop(up))
	at(t, all(rise(last), car(5)), last, up, stop(up))
	at(t, all(rise(last), car(5)), last, down, move(down))
	at(t, all(rise(last), sink(last)), last, down, stop(down))
	at(t, all(rise(last), sink(last)), last, up, stop(up))
	at(t, all(sink(0), car(5)), 0, none, stop(down))
	at(t, all(sink(0), car(5)), 0, down, stop(down))
	at(t, all(sink(0), car(5)), 0, up, move(up))
	at(t, all(sink(0), rise(0)), 0, up, stop(up))
	at(t, all(sink(0), rise(0)), 0, down, stop(down))
	at(t, all(sink(0), rise(0)), 0, none, stop(up))
}

// view is what At is asked of: what a car has about it.
type view struct {
	car, rise, sink bool // what is at the floor
	over, under     int  // how far away the nearest above and below are; 0: there is none
	dir             int
}

// told is what At has to answer, word for word.
func told(x view) plan.Deed {
	dir := none
	switch {
	case x.dir == up && (x.over > 0 || x.rise):
		dir = up
	case x.dir == up && (x.under > 0 || x.sink):
		dir = down
	case x.dir == down && (x.under > 0 || x.sink):
		dir = down
	case x.dir == down && (x.over > 0 || x.rise):
		dir = up
	case x.dir == none && x.rise:
		dir = up
	case x.dir == none && x.sink:
		dir = down
	case x.dir == none && x.over > 0 && (x.under == 0 || x.over <= x.under):
		dir = up
	case x.dir == none && x.under > 0:
		dir = down
	}
	if x.car || dir == up && x.rise || dir == down && x.sink {
		return stop(dir)
	}
	return move(dir)
}

// seen is s from a floor, with a direction, each floor asked on its own.
func seen(s ahead.Stops, floor, dir int) view {
	x := view{car: in(s.Car, floor), rise: in(s.Up, floor), sink: in(s.Down, floor), dir: dir}
	for f := range mostFloors {
		if f < floor && some(s, f) {
			x.under = floor - f
		}
		if f > floor && x.over == 0 && some(s, f) {
			x.over = f - floor
		}
	}
	return x
}

// heres are each choice of the three sorts at that floor.
func heres(floor int) []ahead.Stops {
	return []ahead.Stops{{}, car(floor), rise(floor), sink(floor), all(car(floor), rise(floor)), all(car(floor), sink(floor)), all(rise(floor), sink(floor)), all(sorts(floor)...)}
}

// TestEachNearestTwo takes, from each floor, each choice there, nothing or the nearest on either side anywhere, and each direction.
func TestEachNearestTwo(t *testing.T) {
	for floor := range mostFloors {
		for _, here := range heres(floor) {
			for over := range mostFloors - floor {
				for under := range floor + 1 {
					s := here
					// Of which sort they are changes with how far away they are.
					if over > 0 {
						s = all(s, sorts(floor + over)[(over+under)%3])
					}
					if under > 0 {
						s = all(s, sorts(floor - under)[(floor+under)%3])
					}
					for _, dir := range ways() {
						at(t, s, floor, dir, told(view{in(here.Car, floor), in(here.Up, floor), in(here.Down, floor), over, under, dir}))
					}
				}
			}
		}
	}
}

// TestEachSmallHouse takes, in a house of four floors at either end of those that there may be, whatever stops there are.
func TestEachSmallHouse(t *testing.T) {
	for _, low := range []int{0, 30, mostFloors - 4} {
		for n := range uint64(1 << 12) {
			s := ahead.Stops{Car: n % 16 * power(low), Up: n / 16 % 16 * power(low), Down: n / 256 * power(low)}
			for floor := low; floor < low+4; floor++ {
				for _, dir := range ways() {
					at(t, s, floor, dir, told(seen(s, floor, dir)))
				}
			}
		}
	}
}

// numbers are some of 64 bits: none, all, all but one, runs to either end, and mixed ones.
func numbers() []uint64 {
	l := []uint64{0, math.MaxUint64, 0x5555555555555555, 0xaaaaaaaaaaaaaaaa, 0x8000000000000001, 0xffffffff, 0xffffffff00000000, 0x8000000080000000, 0x9e3779b97f4a7c15, 0x0123456789abcdef, 0x00f0000010000200}
	for floor := range mostFloors {
		n := power(floor)
		l = append(l, n, math.MaxUint64-n, n-1, math.MaxUint64-n+1)
	}
	return l
}

// mixed are stops of the numbers, each of the three sorts of another one, or of none.
func mixed() []ahead.Stops {
	var l []ahead.Stops
	n := numbers()
	for i, x := range n {
		y, z := n[(i*7+3)%len(n)], n[(i*5+11)%len(n)]
		l = append(l, ahead.Stops{Car: x, Up: y, Down: z}, ahead.Stops{Up: x, Down: y}, ahead.Stops{Car: x, Down: y}, ahead.Stops{Car: x, Up: y})
	}
	return l
}

func TestMixed(t *testing.T) {
	for _, s := range mixed() {
		for floor := range mostFloors {
			for _, dir := range ways() {
				at(t, s, floor, dir, told(seen(s, floor, dir)))
			}
		}
	}
}

// What holds of all (P15.2)

// TestNoTurnWithSomethingAhead holds each answer against P15.2 alone, with the stops of TestMixed, and of each floor beside.
func TestNoTurnWithSomethingAhead(t *testing.T) {
	for _, s := range mixed() {
		for floor := range mostFloors {
			for _, dir := range []int{down, up} {
				straight(t, s, floor, dir)
				for _, here := range heres(floor) {
					straight(t, all(s, here), floor, dir)
				}
			}
		}
	}
}

// straight is that a car which goes dir does not turn, nor stop for who goes the other way, while something lies ahead.
func straight(t *testing.T, s ahead.Stops, floor, dir int) {
	t.Helper()
	x, got := seen(s, floor, dir), plan.At(s, floor, dir)
	on, mine := x.over > 0, x.rise
	if dir == down {
		on, mine = x.under > 0, x.sink
	}
	if on && got.Dir != dir {
		t.Errorf("At(%x, %d, %d) = %v: it turns", s, floor, dir, got)
	}
	if on && got.Stop && !x.car && !mine {
		t.Errorf("At(%x, %d, %d) = %v: it stops for who goes the other way", s, floor, dir, got)
	}
	if got.Stop && got.Move != none || !got.Stop && got.Move != got.Dir {
		t.Errorf("At(%x, %d, %d) = %v: it goes so", s, floor, dir, got)
	}
}

// TestWhoGoesTheOtherWay: the same stop is passed by with something ahead, and taken with nothing there.
func TestWhoGoesTheOtherWay(t *testing.T) {
	for floor := range mostFloors {
		at(t, sink(floor), floor, up, stop(down))
		at(t, rise(floor), floor, down, stop(up))
		for f := range mostFloors {
			for _, other := range sorts(f) {
				if f > floor {
					at(t, all(sink(floor), other), floor, up, move(up))
					at(t, all(rise(floor), other), floor, down, stop(up))
				}
				if f < floor {
					at(t, all(rise(floor), other), floor, down, move(down))
					at(t, all(sink(floor), other), floor, up, stop(down))
				}
			}
		}
	}
}

// halt is a stop of a ride: where, and which way on.
type halt struct{ floor, dir int }

// ride is where a car stops which does what At says, till there is nothing left; what it stops for is gone.
func ride(t *testing.T, s ahead.Stops, floor, dir int) []halt {
	t.Helper()
	var halts []halt
	for range 10 * mostFloors {
		deed := plan.At(s, floor, dir)
		dir = deed.Dir
		if !deed.Stop && deed.Move == none {
			return halts
		}
		floor += deed.Move
		if !deed.Stop {
			continue
		}
		halts = append(halts, halt{floor, dir})
		s.Car &^= power(floor)
		if dir == up {
			s.Up &^= power(floor)
		}
		if dir == down {
			s.Down &^= power(floor)
		}
	}
	t.Errorf("from %d it goes on without end", floor)
	return halts
}

func TestRides(t *testing.T) {
	for i, x := range []struct {
		s          ahead.Stops
		floor, dir int
		want       []halt
	}{
		{ahead.Stops{}, 5, up, nil},
		{all(car(7), car(2), rise(3), sink(9)), 5, none, []halt{{7, up}, {9, down}, {2, up}, {3, up}}},
		{all(car(7), car(2), rise(3), sink(9)), 5, down, []halt{{2, up}, {3, up}, {7, up}, {9, down}}},
		{all(sink(6), sink(7), sink(8)), 0, none, []halt{{8, down}, {7, down}, {6, down}}},
		{all(rise(6), rise(7), rise(8)), 9, none, []halt{{6, up}, {7, up}, {8, up}}},
		// Who goes up comes first, then, with nothing ahead, who goes down.
		{all(rise(5), sink(5)), 2, up, []halt{{5, up}, {5, down}}},
		{all(rise(5), sink(5), car(1)), 2, up, []halt{{5, up}, {5, down}, {1, none}}},
		{all(rise(5), sink(5), car(8)), 2, up, []halt{{5, up}, {8, down}, {5, down}}},
		{all(rise(last), sink(0), rise(0)), 31, none, []halt{{0, down}, {0, up}, {last, up}}},
	} {
		if got := ride(t, x.s, x.floor, x.dir); !slices.Equal(got, x.want) {
			t.Errorf("%d: %v, not %v", i, got, x.want)
		}
	}
}

// TestRidesEnd: whatever there is, it is all served.
func TestRidesEnd(t *testing.T) {
	for _, s := range mixed() {
		for _, floor := range []int{0, 1, 31, 62, last} {
			for _, dir := range ways() {
				count := 0
				for f := range mostFloors {
					if some(s, f) {
						count++
					}
				}
				stops := map[int]bool{}
				for _, h := range ride(t, s, floor, dir) {
					stops[h.floor] = true
				}
				if len(stops) != count {
					t.Errorf("of %x, from %d, it served %d floors of %d", s, floor, len(stops), count)
				}
			}
		}
	}
}
