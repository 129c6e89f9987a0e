package plant_test

import (
	"math"
	"testing"

	"paternoster/api"
	"paternoster/plant"
)

// P12.1

// The limits, told anew.
const (
	mostCars   = 16
	mostFloors = 64
	mostSpeed  = 8
	mostDwell  = 8
)

// far are numbers far out, among them those that a narrower int would take for 1 to 5.
func far() []int {
	return []int{
		100, 255, 256, 257, 258, 261, 1<<16 + 2, 1<<32 - 1, 1 << 32, 1<<32 + 1, 1<<32 + 2, 1<<32 + 5, math.MaxInt - 1, math.MaxInt,
		-100, -254, -255, -256, -1<<16 + 2, -1<<32 + 2, -1 << 32, math.MinInt, math.MinInt + 1, math.MinInt + 2, math.MinInt + 5,
	}
}

// house is one of 2 cars and a Dwell of 4.
func house(floors, speed int) api.House {
	return api.House{Cars: 2, Floors: floors, Speed: speed, Dwell: 4}
}

// houses are valid ones, of each count of floors at each speed.
func houses() []api.House {
	var l []api.House
	for floors := 2; floors <= mostFloors; floors++ {
		for speed := 1; speed <= mostSpeed; speed++ {
			l = append(l, house(floors, speed))
		}
	}
	return l
}

// notValid are houses that are not valid, by each of the four numbers alone, by each two of them, and by all.
func notValid() []api.House {
	var l []api.House
	for _, out := range append(far(), 0, -1, -2) {
		for _, other := range []api.House{{Cars: 1, Floors: 2, Speed: 1, Dwell: 1}, house(5, 3), {Cars: mostCars, Floors: mostFloors, Speed: mostSpeed, Dwell: mostDwell}} {
			for some := 1; some < 1<<4; some++ {
				l = append(l, spoilt(other, some, out))
			}
		}
	}
	return append(l,
		api.House{},
		api.House{Cars: mostCars + 1, Floors: 5, Speed: 3, Dwell: 4},
		api.House{Cars: 2, Floors: 1, Speed: 3, Dwell: 4},
		api.House{Cars: 2, Floors: mostFloors + 1, Speed: 3, Dwell: 4},
		api.House{Cars: 2, Floors: 5, Speed: mostSpeed + 1, Dwell: 4},
		api.House{Cars: 2, Floors: 5, Speed: 3, Dwell: mostDwell + 1},
	)
}

// spoilt is h with out in place of some of its numbers: Cars for 1, Floors for 2, Speed for 4, Dwell for 8.
func spoilt(h api.House, some, out int) api.House {
	for i, n := range []*int{&h.Cars, &h.Floors, &h.Speed, &h.Dwell} {
		if some&(1<<i) != 0 {
			*n = out
		}
	}
	return h
}

// floorsOf tells of each Pos of h which floor it belongs to, and whether it is a floor's, by going from the lowest one up.
func floorsOf(h api.House) (floors []int, level []bool) {
	for floor := range h.Floors - 1 {
		for tick := range h.Speed {
			floors = append(floors, floor)
			level = append(level, tick == 0)
		}
	}
	return append(floors, h.Floors-1), append(level, true)
}

// Valid

func TestValid(t *testing.T) {
	least := api.House{Cars: 1, Floors: 2, Speed: 1, Dwell: 1}
	most := api.House{Cars: mostCars, Floors: mostFloors, Speed: mostSpeed, Dwell: mostDwell}
	for _, h := range []api.House{least, most, house(5, 3), {Cars: 1, Floors: mostFloors, Speed: 1, Dwell: mostDwell}, {Cars: mostCars, Floors: 2, Speed: mostSpeed, Dwell: 1}} {
		if !plant.Valid(h) {
			t.Errorf("Valid(%v) = false", h)
		}
	}
	for _, h := range notValid() {
		if plant.Valid(h) {
			t.Errorf("Valid(%v) = true", h)
		}
	}
}

// TestValidByEachNumber has each of the four go from below its least to above its greatest, the others at their least, between, and at their greatest.
func TestValidByEachNumber(t *testing.T) {
	bounds := [4][2]int{{1, mostCars}, {2, mostFloors}, {1, mostSpeed}, {1, mostDwell}}
	for _, other := range []api.House{{Cars: 1, Floors: 2, Speed: 1, Dwell: 1}, house(5, 3), {Cars: mostCars, Floors: mostFloors, Speed: mostSpeed, Dwell: mostDwell}} {
		for i, b := range bounds {
			for n := -70; n <= 140; n++ {
				h := spoilt(other, 1<<i, n)
				if got := plant.Valid(h); got != (n >= b[0] && n <= b[1]) {
					t.Errorf("Valid(%v) = %v", h, got)
				}
			}
			for _, n := range far() {
				if h := spoilt(other, 1<<i, n); plant.Valid(h) {
					t.Errorf("Valid(%v) = true", h)
				}
			}
		}
	}
}

// Top

func TestTop(t *testing.T) {
	for _, x := range []struct{ floors, speed, want int }{
		{5, 3, 12}, {2, 1, 1}, {2, 8, 8}, {3, 1, 2}, {3, 2, 4}, {64, 1, 63}, {64, 8, 504}, {63, 8, 496}, {64, 7, 441}, {17, 5, 80},
	} {
		if got := plant.Top(house(x.floors, x.speed)); got != x.want {
			t.Errorf("Top of %d floors of speed %d = %d, not %d", x.floors, x.speed, got, x.want)
		}
	}
	for _, h := range houses() {
		floors, _ := floorsOf(h)
		if got := plant.Top(h); got != len(floors)-1 {
			t.Errorf("Top(%v) = %d", h, got)
		}
	}
}

// TestCarsAndDwellAreNothingToAPlace: how many cars there are, and how long doors stay open, moves no floor.
func TestCarsAndDwellAreNothingToAPlace(t *testing.T) {
	for cars := 1; cars <= mostCars; cars++ {
		for dwell := 1; dwell <= mostDwell; dwell++ {
			h := api.House{Cars: cars, Floors: 5, Speed: 3, Dwell: dwell}
			if got := plant.Top(h); got != 12 {
				t.Errorf("Top(%v) = %d", h, got)
			}
			if got := plant.Floor(h, 7); got != 2 {
				t.Errorf("Floor(%v, 7) = %d", h, got)
			}
			if !plant.Level(h, 6) || plant.Level(h, 7) {
				t.Errorf("Level(%v): 6 %v, 7 %v", h, plant.Level(h, 6), plant.Level(h, 7))
			}
		}
	}
}

// Level and Floor

func TestLevelAndFloor(t *testing.T) {
	for _, x := range []struct {
		floors, speed, pos int
		level              bool
		floor              int
	}{
		{5, 3, 0, true, 0}, {5, 3, 1, false, 0}, {5, 3, 2, false, 0}, {5, 3, 3, true, 1}, {5, 3, 4, false, 1}, {5, 3, 5, false, 1}, {5, 3, 6, true, 2},
		{5, 3, 9, true, 3}, {5, 3, 10, false, 3}, {5, 3, 11, false, 3}, {5, 3, 12, true, 4},
		{5, 3, -1, false, 0}, {5, 3, -2, false, 0}, {5, 3, -3, false, 0}, {5, 3, -6, false, 0},
		{5, 3, 13, false, 4}, {5, 3, 14, false, 4}, {5, 3, 15, false, 4}, {5, 3, 18, false, 4}, {5, 3, 192, false, 4},
		{2, 1, -1, false, 0}, {2, 1, 0, true, 0}, {2, 1, 1, true, 1}, {2, 1, 2, false, 1},
		{2, 8, 0, true, 0}, {2, 8, 1, false, 0}, {2, 8, 7, false, 0}, {2, 8, 8, true, 1}, {2, 8, 9, false, 1}, {2, 8, 16, false, 1},
		{64, 1, 63, true, 63}, {64, 1, 62, true, 62}, {64, 1, 64, false, 63}, {64, 1, -1, false, 0},
		{64, 8, 504, true, 63}, {64, 8, 503, false, 62}, {64, 8, 497, false, 62}, {64, 8, 496, true, 62}, {64, 8, 505, false, 63}, {64, 8, 512, false, 63}, {64, 8, 256, true, 32}, {64, 8, 255, false, 31}, {64, 8, 257, false, 32},
		{5, 3, math.MinInt, false, 0}, {5, 3, math.MinInt + 2, false, 0}, {5, 3, math.MaxInt, false, 4}, {5, 3, math.MaxInt - 1, false, 4},
		{2, 1, math.MinInt, false, 0}, {2, 1, math.MaxInt, false, 1}, {64, 8, math.MinInt, false, 0}, {64, 8, math.MaxInt - 7, false, 63},
	} {
		h := house(x.floors, x.speed)
		if got := plant.Level(h, x.pos); got != x.level {
			t.Errorf("Level(%v, %d) = %v", h, x.pos, got)
		}
		if got := plant.Floor(h, x.pos); got != x.floor {
			t.Errorf("Floor(%v, %d) = %d, not %d", h, x.pos, got, x.floor)
		}
	}
}

func TestLevelAndFloorOfEachPos(t *testing.T) {
	for _, h := range houses() {
		floors, level := floorsOf(h)
		for pos := range floors {
			if got := plant.Level(h, pos); got != level[pos] {
				t.Errorf("Level(%v, %d) = %v", h, pos, got)
			}
			if got := plant.Floor(h, pos); got != floors[pos] {
				t.Errorf("Floor(%v, %d) = %d, not %d", h, pos, got, floors[pos])
			}
		}
		for n := 1; n <= 20; n++ {
			checkOutside(t, h, -n, 0)
			checkOutside(t, h, len(floors)-1+n, h.Floors-1)
		}
		for _, pos := range far() {
			if pos < 0 {
				checkOutside(t, h, pos, 0)
			} else if pos >= len(floors) {
				checkOutside(t, h, pos, h.Floors-1)
			}
		}
	}
}

// checkOutside holds a pos outside of h against the floor that it is cut to.
func checkOutside(t *testing.T, h api.House, pos, floor int) {
	t.Helper()
	if plant.Level(h, pos) {
		t.Errorf("Level(%v, %d) = true", h, pos)
	}
	if got := plant.Floor(h, pos); got != floor {
		t.Errorf("Floor(%v, %d) = %d, not %d", h, pos, got, floor)
	}
}

// Go

// gone has a car at pos go by motor; it has to come to that place.
func gone(t *testing.T, h api.House, pos, motor, want int) {
	t.Helper()
	if got, ok := plant.Go(h, pos, motor); got != want || !ok {
		t.Errorf("Go(%v, %d, %d) = %d, %v, not %d", h, pos, motor, got, ok, want)
	}
}

// notGone has a car at pos go by motor, which must not be.
func notGone(t *testing.T, h api.House, pos, motor int) {
	t.Helper()
	if got, ok := plant.Go(h, pos, motor); got != 0 || ok {
		t.Errorf("Go(%v, %d, %d) = %d, %v", h, pos, motor, got, ok)
	}
}

func TestGo(t *testing.T) {
	h := house(5, 3)
	for _, x := range []struct{ pos, motor, want int }{
		{0, 1, 1}, {0, 0, 0}, {5, 1, 6}, {5, -1, 4}, {5, 0, 5}, {11, 1, 12}, {12, -1, 11}, {12, 0, 12}, {1, -1, 0},
		{5, 2, 6}, {5, 3, 6}, {5, 7, 6}, {5, -2, 4}, {5, -3, 4}, {5, -7, 4},
		{0, 2, 1}, {0, 12, 1}, {0, 13, 1}, {0, 100, 1}, {11, 2, 12}, {12, -2, 11}, {12, -12, 11}, {12, -13, 11}, {1, -2, 0}, {1, -100, 0},
		{-1, 1, 0}, {-1, 2, 0}, {-1, 5, 0}, {13, -1, 12}, {13, -2, 12}, {13, -5, 12},
	} {
		gone(t, h, x.pos, x.motor, x.want)
	}
	for _, x := range []struct{ pos, motor int }{
		{0, -1}, {0, -2}, {12, 1}, {12, 2}, {12, 100},
		{-1, 0}, {-1, -1}, {-2, 1}, {-2, 2}, {-2, 3}, {-2, 0}, {-3, 3}, {-5, 10}, {13, 0}, {13, 1}, {14, -1}, {14, -2}, {14, -3}, {14, 0}, {20, -10},
	} {
		notGone(t, h, x.pos, x.motor)
	}
}

// TestGoByFarNumbers: however far out the motor is, it is one tick's; however far out the car is, it comes to no place in the house.
func TestGoByFarNumbers(t *testing.T) {
	for _, h := range []api.House{house(2, 1), house(5, 3), house(mostFloors, mostSpeed)} {
		top := plant.Top(h)
		for _, motor := range far() {
			step := 1
			if motor < 0 {
				step = -1
			}
			for pos := range top + 1 {
				if to := pos + step; to >= 0 && to <= top {
					gone(t, h, pos, motor, to)
				} else {
					notGone(t, h, pos, motor)
				}
			}
		}
		for _, pos := range far() {
			for _, motor := range append(far(), -2, -1, 0, 1, 2) {
				if pos < -1 || pos > top+1 {
					notGone(t, h, pos, motor)
				}
			}
		}
	}
}

// TestGoAtTheEndsOfAnInt: one beyond the greatest number there is is no place, though an int would come out at its other end.
func TestGoAtTheEndsOfAnInt(t *testing.T) {
	for _, h := range []api.House{house(2, 1), house(5, 3), house(mostFloors, mostSpeed)} {
		for _, pos := range []int{math.MinInt, math.MinInt + 1, math.MaxInt - 1, math.MaxInt} {
			for _, motor := range []int{math.MinInt, -1 << 32, -2, -1, 0, 1, 2, 1 << 32, math.MaxInt} {
				notGone(t, h, pos, motor)
			}
		}
	}
}

func TestGoFromEachPos(t *testing.T) {
	for _, h := range houses() {
		top := plant.Top(h)
		for pos := -12; pos <= top+12; pos++ {
			for motor := -3; motor <= 3; motor++ {
				to := pos
				if motor > 0 {
					to++
				} else if motor < 0 {
					to--
				}
				if to >= 0 && to <= top {
					gone(t, h, pos, motor, to)
				} else {
					notGone(t, h, pos, motor)
				}
			}
		}
	}
}

// Right

// right holds what Right answers against what it has to.
func right(t *testing.T, h api.House, s api.State, want bool) {
	t.Helper()
	if got := plant.Right(h, s); got != want {
		t.Errorf("Right(%v, %v) = %v", h, s, got)
	}
}

func TestRight(t *testing.T) {
	h := house(5, 3)
	for _, x := range []struct {
		s    api.State
		want bool
	}{
		{api.State{}, true},
		// Pos
		{api.State{Pos: 12}, true}, {api.State{Pos: 13}, false}, {api.State{Pos: -1}, false}, {api.State{Pos: 15}, false}, {api.State{Pos: -3}, false},
		{api.State{Pos: 13, Dir: 1}, false}, {api.State{Pos: -1, Dir: 1}, false}, {api.State{Pos: 13, Relevel: true}, false}, {api.State{Pos: -1, Relevel: true}, false}, {api.State{Pos: 15, Door: 1}, false}, {api.State{Pos: -3, Door: 1}, false},
		{api.State{Pos: 1, Dir: 1}, true}, {api.State{Pos: 11, Dir: 1}, true},
		// Dir
		{api.State{Dir: 1}, true}, {api.State{Dir: -1}, true}, {api.State{Dir: 2}, false}, {api.State{Dir: -2}, false},
		{api.State{Pos: 12, Dir: 1}, true}, {api.State{Pos: 4, Dir: 2}, false}, {api.State{Pos: 4, Dir: -2}, false}, {api.State{Pos: 4, Dir: 2, Relevel: true}, false}, {api.State{Pos: 3, Dir: -2, Door: 1}, false},
		// Door, at a level
		{api.State{Pos: 3, Door: 1}, true}, {api.State{Pos: 3, Door: 4}, true}, {api.State{Pos: 3, Door: 5}, false}, {api.State{Pos: 3, Door: -1}, false}, {api.State{Pos: 3, Door: 8}, false},
		{api.State{Door: 4}, true}, {api.State{Door: 5}, false}, {api.State{Door: -1}, false}, {api.State{Pos: 12, Door: 4}, true},
		{api.State{Pos: 3, Dir: 1, Door: 4}, true}, {api.State{Pos: 3, Dir: -1, Door: 1}, true},
		// Door, between floors
		{api.State{Pos: 4, Dir: 1, Door: 1}, false}, {api.State{Pos: 4, Door: 1}, false}, {api.State{Pos: 2, Dir: -1, Door: 4}, false}, {api.State{Pos: 4, Dir: 1, Door: -1}, false}, {api.State{Pos: 4, Door: 1, Relevel: true}, false},
		// between floors
		{api.State{Pos: 4}, false}, {api.State{Pos: 5}, false}, {api.State{Pos: 4, Dir: 1}, true}, {api.State{Pos: 4, Dir: -1}, true},
		{api.State{Pos: 4, Relevel: true}, true}, {api.State{Pos: 4, Dir: 1, Relevel: true}, true}, {api.State{Pos: 4, Dir: -1, Relevel: true}, true},
		// Relevel, at a level
		{api.State{Pos: 3, Relevel: true}, true}, {api.State{Relevel: true}, true}, {api.State{Pos: 12, Dir: 1, Relevel: true}, true}, {api.State{Pos: 3, Dir: -1, Relevel: true}, true},
		{api.State{Pos: 3, Door: 1, Relevel: true}, false}, {api.State{Pos: 3, Door: 4, Relevel: true}, false}, {api.State{Pos: 3, Dir: 1, Door: 1, Relevel: true}, false}, {api.State{Pos: 3, Door: -1, Relevel: true}, false},
	} {
		right(t, h, x.s, x.want)
	}
}

// mayBe tells whether a state that is inside its bounds but for Pos may be, as the chapter does.
func mayBe(s api.State, outside, level bool) bool {
	switch {
	case outside:
		return false
	case s.Door > 0 && !level:
		return false
	case !level && s.Dir == 0 && !s.Relevel:
		return false
	case s.Relevel && s.Door != 0:
		return false
	}
	return true
}

func TestRightOfEachState(t *testing.T) {
	for _, h := range []api.House{{Cars: 1, Floors: 2, Speed: 1, Dwell: 1}, house(2, 8), house(5, 3), house(4, 2), {Cars: 16, Floors: 9, Speed: 8, Dwell: 8}} {
		_, level := floorsOf(h)
		for pos := -9; pos < len(level)+9; pos++ {
			outside := pos < 0 || pos >= len(level)
			for dir := -3; dir <= 3; dir++ {
				for door := -2; door <= h.Dwell+2; door++ {
					for _, relevel := range []bool{false, true} {
						s := api.State{Pos: pos, Dir: dir, Door: door, Relevel: relevel}
						in := dir >= -1 && dir <= 1 && door >= 0 && door <= h.Dwell
						right(t, h, s, in && mayBe(s, outside, !outside && level[pos]))
					}
				}
			}
		}
	}
}

func TestRightOfFarNumbers(t *testing.T) {
	for _, h := range []api.House{house(2, 1), house(5, 3), {Cars: 16, Floors: mostFloors, Speed: mostSpeed, Dwell: mostDwell}} {
		top := plant.Top(h)
		for _, n := range far() {
			for _, relevel := range []bool{false, true} {
				if n < 0 || n > top {
					right(t, h, api.State{Pos: n, Relevel: relevel}, false)
					right(t, h, api.State{Pos: n, Dir: 1, Relevel: relevel}, false)
				}
				right(t, h, api.State{Dir: n, Relevel: relevel}, false)
				right(t, h, api.State{Pos: top, Dir: n, Relevel: relevel}, false)
				right(t, h, api.State{Door: n, Relevel: relevel}, false)
				right(t, h, api.State{Pos: top, Dir: 1, Door: n, Relevel: relevel}, false)
				right(t, h, api.State{Pos: n, Dir: n, Door: n, Relevel: relevel}, false)
			}
		}
	}
}

// TestRightOfEachDwell: a door stays open for as long as the house says, not for as long as any may.
func TestRightOfEachDwell(t *testing.T) {
	for dwell := 1; dwell <= mostDwell; dwell++ {
		h := api.House{Cars: 1, Floors: 3, Speed: 2, Dwell: dwell}
		for door := -1; door <= mostDwell+1; door++ {
			right(t, h, api.State{Pos: 2, Door: door}, door >= 0 && door <= dwell)
		}
	}
}

// Houses that are not valid

func TestHousesThatAreNotValid(t *testing.T) {
	for _, h := range notValid() {
		if plant.Valid(h) {
			t.Errorf("Valid(%v) = true", h)
		}
		if got := plant.Top(h); got != 0 {
			t.Errorf("Top(%v) = %d", h, got)
		}
		for _, pos := range append(far(), -3, -1, 0, 1, 2, 3, 4, 6, 12, 13) {
			checkOutside(t, h, pos, 0)
			for _, motor := range []int{math.MinInt, -2, -1, 0, 1, 2, math.MaxInt} {
				notGone(t, h, pos, motor)
			}
			for _, relevel := range []bool{false, true} {
				right(t, h, api.State{Pos: pos, Relevel: relevel}, false)
				right(t, h, api.State{Pos: pos, Dir: 1, Relevel: relevel}, false)
				right(t, h, api.State{Pos: pos, Door: 1, Relevel: relevel}, false)
			}
		}
	}
}
