package door_test

import (
	"math"
	"math/big"
	"testing"

	"paternoster/door"
)

// P13.1

// mostDwell is the limit, told anew.
const mostDwell = 8

// far are numbers far out, among them those that a narrower int would take for 1 to 5, and those around a third of what an int holds.
func far() []int {
	l := []int{
		100, 255, 256, 257, 258, 261, 1<<16 + 2, 1<<31 - 1, 1 << 31, 1<<32 - 1, 1 << 32, 1<<32 + 1, 1<<32 + 5, 1 << 61, 1 << 62, 1<<62 + 1, math.MaxInt - 2, math.MaxInt - 1, math.MaxInt,
		-100, -255, -256, -257, -1<<16 + 2, -1 << 31, -1<<32 + 2, -1 << 32, -1 << 61, -1 << 62, -1<<62 - 1, math.MinInt, math.MinInt + 1, math.MinInt + 2, math.MinInt + 5,
	}
	for n := -3; n <= 3; n++ {
		l = append(l, math.MaxInt/3+n, math.MinInt/3+n, math.MaxInt/3*2+n, math.MinInt/3*2+n)
	}
	return l
}

// some are numbers around 0, and those far out.
func some() []int {
	l := far()
	for n := -40; n <= 40; n++ {
		l = append(l, n)
	}
	return l
}

// Open

// opened holds the door that Open answers against the one with that Left; it has to be open.
func opened(t *testing.T, dwell, left int) {
	t.Helper()
	got := door.Open(dwell)
	if got != (door.Door{Left: left}) {
		t.Errorf("Open(%d) = %v, not with %d left", dwell, got, left)
	}
	if !door.Is(got) {
		t.Errorf("Open(%d) = %v is not open", dwell, got)
	}
	if door.Stuck(got, dwell) != (dwell < 0) {
		t.Errorf("Open(%d) = %v: Stuck of %d is %v", dwell, got, dwell, door.Stuck(got, dwell))
	}
}

func TestOpen(t *testing.T) {
	for dwell := 1; dwell <= mostDwell; dwell++ {
		opened(t, dwell, dwell)
	}
	for _, dwell := range []int{0, -1, -2, -7, -8, -9} {
		opened(t, dwell, 1)
	}
	for _, dwell := range []int{mostDwell + 1, mostDwell + 2, 2 * mostDwell, 24, 64} {
		opened(t, dwell, mostDwell)
	}
	for _, dwell := range far() {
		if dwell < 1 {
			opened(t, dwell, 1)
		} else {
			opened(t, dwell, mostDwell)
		}
	}
}

// Is

func TestIs(t *testing.T) {
	for _, held := range some() {
		for _, left := range some() {
			d := door.Door{Left: left, Held: held}
			if got := door.Is(d); got != (left > 0) {
				t.Errorf("Is(%v) = %v", d, got)
			}
		}
	}
	if door.Is(door.Door{}) {
		t.Error("the zero value is open")
	}
}

// Tick

// ticked holds what Tick answers against what it has to.
func ticked(t *testing.T, d door.Door, obstructed bool, want door.Door, closed bool) {
	t.Helper()
	if got, is := door.Tick(d, obstructed); got != want || is != closed {
		t.Errorf("Tick(%v, %v) = %v, %v, not %v, %v", d, obstructed, got, is, want, closed)
	}
}

func TestTick(t *testing.T) {
	ticked(t, door.Open(1), false, door.Door{}, true)
	for _, x := range []struct {
		left, held int
		obstructed bool
		want       door.Door
		closed     bool
	}{
		// Left above 1: it is nothing to it whether it is obstructed, and Held stays.
		{2, 0, false, door.Door{Left: 1}, false}, {2, 0, true, door.Door{Left: 1}, false},
		{2, 5, false, door.Door{Left: 1, Held: 5}, false}, {2, 5, true, door.Door{Left: 1, Held: 5}, false},
		{3, 0, false, door.Door{Left: 2}, false}, {3, 0, true, door.Door{Left: 2}, false},
		{8, 1, false, door.Door{Left: 7, Held: 1}, false}, {8, 1, true, door.Door{Left: 7, Held: 1}, false},
		{9, 30, false, door.Door{Left: 8, Held: 30}, false}, {9, 30, true, door.Door{Left: 8, Held: 30}, false},
		{2, -5, false, door.Door{Left: 1, Held: -5}, false}, {2, -5, true, door.Door{Left: 1, Held: -5}, false},
		// Left 1.
		{1, 0, false, door.Door{}, true}, {1, 1, false, door.Door{}, true}, {1, 30, false, door.Door{}, true}, {1, -5, false, door.Door{}, true},
		{1, 0, true, door.Door{Left: 1, Held: 1}, false}, {1, 1, true, door.Door{Left: 1, Held: 2}, false}, {1, 30, true, door.Door{Left: 1, Held: 31}, false},
		{1, -1, true, door.Door{Left: 1}, false}, {1, -5, true, door.Door{Left: 1, Held: -4}, false},
		// Not open.
		{0, 0, false, door.Door{}, false}, {0, 0, true, door.Door{}, false}, {0, 7, false, door.Door{}, false}, {0, 7, true, door.Door{}, false},
		{-1, 0, false, door.Door{}, false}, {-1, 0, true, door.Door{}, false}, {-3, 7, false, door.Door{}, false}, {-3, 7, true, door.Door{}, false}, {-1, -7, false, door.Door{}, false}, {0, -7, true, door.Door{}, false},
	} {
		ticked(t, door.Door{Left: x.left, Held: x.held}, x.obstructed, x.want, x.closed)
	}
}

// TestTickOfAnyNumbers takes each Left with each Held, both around 0 and far out.
func TestTickOfAnyNumbers(t *testing.T) {
	for _, left := range some() {
		for _, held := range some() {
			d := door.Door{Left: left, Held: held}
			switch {
			case left <= 0:
				ticked(t, d, false, door.Door{}, false)
				ticked(t, d, true, door.Door{}, false)
			case left > 1:
				ticked(t, d, false, door.Door{Left: left - 1, Held: held}, false)
				ticked(t, d, true, door.Door{Left: left - 1, Held: held}, false)
			default:
				ticked(t, d, false, door.Door{}, true)
				heldOpen(t, d)
			}
		}
	}
}

// heldOpen has a door with Left 1 be obstructed for a tick. Of the greatest Held that there is one more has no room: there no more is asked than that it stays open.
func heldOpen(t *testing.T, d door.Door) {
	t.Helper()
	if d.Held < math.MaxInt {
		ticked(t, d, true, door.Door{Left: 1, Held: d.Held + 1}, false)
		return
	}
	if got, closed := door.Tick(d, true); got.Left != 1 || closed {
		t.Errorf("Tick(%v, true) = %v, %v", d, got, closed)
	}
}

// TestTickTillItCloses: one that nobody holds is open for as many ticks as it was opened for.
func TestTickTillItCloses(t *testing.T) {
	for dwell := 1; dwell <= mostDwell; dwell++ {
		d := door.Open(dwell)
		for left := dwell - 1; left > 0; left-- {
			ticked(t, d, false, door.Door{Left: left}, false)
			d, _ = door.Tick(d, false)
		}
		ticked(t, d, false, door.Door{}, true)
		d, _ = door.Tick(d, false)
		for range 3 {
			ticked(t, d, false, door.Door{}, false)
			ticked(t, d, true, door.Door{}, false)
		}
	}
}

// TestTickAgainAndAgain: one that is held stays at its last tick, and is stuck as soon as it was held for more than 3 times its dwell; let go, it closes.
func TestTickAgainAndAgain(t *testing.T) {
	for dwell := 1; dwell <= mostDwell; dwell++ {
		d := door.Open(dwell)
		for left := dwell - 1; left > 0; left-- {
			ticked(t, d, true, door.Door{Left: left}, false)
			d, _ = door.Tick(d, true)
		}
		for held := 1; held <= 100; held++ {
			ticked(t, d, true, door.Door{Left: 1, Held: held}, false)
			d, _ = door.Tick(d, true)
			if got := door.Stuck(d, dwell); got != (held > 3*dwell) {
				t.Errorf("Stuck(%v, %d) = %v", d, dwell, got)
			}
			ticked(t, d, false, door.Door{}, true)
		}
		d, _ = door.Tick(d, false)
		if door.Is(d) || door.Stuck(d, dwell) {
			t.Errorf("closed, %v is open, or stuck", d)
		}
	}
}

// Stuck

// stuck holds what Stuck answers against what it has to.
func stuck(t *testing.T, left, held, dwell int, want bool) {
	t.Helper()
	d := door.Door{Left: left, Held: held}
	if got := door.Stuck(d, dwell); got != want {
		t.Errorf("Stuck(%v, %d) = %v", d, dwell, got)
	}
}

func TestStuck(t *testing.T) {
	for _, left := range []int{1, 2, mostDwell, mostDwell + 1, math.MaxInt} {
		for dwell := -20; dwell <= 20; dwell++ {
			for held := -100; held <= 100; held++ {
				stuck(t, left, held, dwell, held > 3*dwell)
			}
		}
	}
	for _, x := range []struct {
		held, dwell int
		want        bool
	}{
		{2, 1, false}, {3, 1, false}, {4, 1, true}, {5, 2, false}, {6, 2, false}, {7, 2, true}, {23, 8, false}, {24, 8, false}, {25, 8, true}, {27, 9, false}, {28, 9, true}, {300, 100, false}, {301, 100, true},
		{-1, 0, false}, {0, 0, false}, {1, 0, true},
		{-4, -1, false}, {-3, -1, false}, {-2, -1, true}, {0, -1, true}, {-7, -2, false}, {-6, -2, false}, {-5, -2, true},
	} {
		stuck(t, 1, x.held, x.dwell, x.want)
	}
}

// TestStuckOfOneThatIsNotOpen: it is not, however long it was held.
func TestStuckOfOneThatIsNotOpen(t *testing.T) {
	for _, left := range append(far(), 0, -1, -2, -8) {
		for _, held := range some() {
			for _, dwell := range []int{math.MinInt, math.MinInt/3 - 1, -9, -1, 0, 1, 2, 8, 9, math.MaxInt/3 + 1, math.MaxInt} {
				if left <= 0 {
					stuck(t, left, held, dwell, false)
				}
			}
		}
	}
}

// TestStuckOfAnyNumbers holds it against numbers without bounds.
func TestStuckOfAnyNumbers(t *testing.T) {
	for _, dwell := range some() {
		thrice := new(big.Int).Mul(big.NewInt(3), big.NewInt(int64(dwell)))
		for _, held := range append(some(), around(dwell)...) {
			want := big.NewInt(int64(held)).Cmp(thrice) > 0
			stuck(t, 1, held, dwell, want)
			stuck(t, math.MaxInt, held, dwell, want)
			stuck(t, 0, held, dwell, false)
		}
	}
}

// around are the numbers about 3 times dwell, wrapped round or not.
func around(dwell int) []int {
	return []int{3*dwell - 2, 3*dwell - 1, 3 * dwell, 3*dwell + 1, 3*dwell + 2}
}

// TestStuckAtTheEndsOfAnInt: 3 times dwell has no room in an int, either way.
func TestStuckAtTheEndsOfAnInt(t *testing.T) {
	for _, x := range []struct {
		held, dwell int
		want        bool
	}{
		{math.MaxInt, math.MaxInt / 3, true}, {math.MaxInt / 3 * 3, math.MaxInt / 3, false}, {math.MaxInt/3*3 - 1, math.MaxInt / 3, false},
		{math.MaxInt, math.MaxInt/3 + 1, false}, {math.MaxInt, math.MaxInt, false}, {1, math.MaxInt/3 + 1, false}, {0, math.MaxInt, false}, {math.MinInt, math.MaxInt, false},
		{math.MinInt / 3 * 3, math.MinInt / 3, false}, {math.MinInt/3*3 + 1, math.MinInt / 3, true}, {math.MinInt, math.MinInt / 3, false},
		{math.MinInt, math.MinInt/3 - 1, true}, {math.MinInt, math.MinInt, true}, {0, math.MinInt, true}, {-1, math.MinInt/3 - 1, true}, {math.MaxInt, math.MinInt, true},
	} {
		stuck(t, 1, x.held, x.dwell, x.want)
		stuck(t, 0, x.held, x.dwell, false)
	}
}
