package ahead_test

import (
	"math"
	"slices"
	"testing"

	"paternoster/ahead"
	"paternoster/api"
)

// P14.1

// The limit and the directions, told anew.
const (
	mostFloors = 64
	down       = -1
	none       = 0
	up         = 1
)

// outside are numbers that are no floors, among them those that a narrower int, or a shift that goes round, would take for one.
func outside() []int {
	return []int{
		-1, -2, -3, -8, -62, -63, -64, -65, -66, -127, -128, -129, -255, -256, -257, -1<<16 + 2, -1 << 31, -1<<31 - 1, -1<<32 + 2, -1 << 32, -1 << 62, math.MinInt + 63, math.MinInt + 2, math.MinInt + 1, math.MinInt,
		64, 65, 66, 67, 127, 128, 129, 191, 192, 255, 256, 257, 1<<16 + 2, 1<<31 - 1, 1 << 31, 1<<32 - 1, 1 << 32, 1<<32 + 2, 1<<32 + 63, 1 << 40, 1 << 62, math.MaxInt - 64, math.MaxInt - 63, math.MaxInt - 1, math.MaxInt,
	}
}

// places are all floors, and the numbers that are none.
func places() []int {
	l := outside()
	for floor := range mostFloors {
		l = append(l, floor)
	}
	return l
}

// noWays are Dirs that are neither up nor down; the first one is none.
func noWays() []int {
	return []int{none, 2, -2, 3, -3, 64, 127, 128, 255, 256, 257, -255, -257, 1<<16 + 1, 1<<32 - 1, 1<<32 + 1, -1<<32 - 1, -1<<32 + 1, math.MaxInt, math.MaxInt - 1, math.MinInt, math.MinInt + 1}
}

// is is whether floor is one.
func is(floor int) bool {
	return 0 <= floor && floor < mostFloors
}

// power is 2 as often as that floor is high.
func power(floor int) uint64 {
	n := uint64(1)
	for range floor {
		n *= 2
	}
	return n
}

// in is whether floor stands in the number n, bit for bit told by halving.
func in(n uint64, floor int) bool {
	return is(floor) && n/power(floor)%2 == 1
}

// some is whether there is something at floor.
func some(s ahead.Stops, floor int) bool {
	return in(s.Car, floor) || in(s.Up, floor) || in(s.Down, floor)
}

// numbers are some of 64 bits: none, all, each one alone, all but one, runs to either end, and mixed ones.
func numbers() []uint64 {
	l := []uint64{0, math.MaxUint64, 0x5555555555555555, 0xaaaaaaaaaaaaaaaa, 0x8000000000000001, 0xffffffff, 0xffffffff00000000, 0x8000000080000000, 0x9e3779b97f4a7c15, 0x0123456789abcdef, 0x00f0000010000200}
	for floor := range mostFloors {
		n := power(floor)
		l = append(l, n, math.MaxUint64-n, n-1, math.MaxUint64-n+1)
	}
	return l
}

// stops are those of each number as each of the three sorts alone, and of mixed ones.
func stops() []ahead.Stops {
	var l []ahead.Stops
	n := numbers()
	for i, x := range n {
		l = append(l, ahead.Stops{Car: x}, ahead.Stops{Up: x}, ahead.Stops{Down: x}, ahead.Stops{Car: x, Up: x, Down: x})
		l = append(l, ahead.Stops{Car: x, Up: n[(i*7+3)%len(n)], Down: n[(i*5+11)%len(n)]})
	}
	return l
}

// full is with all there is.
func full() ahead.Stops {
	return ahead.Stops{Car: math.MaxUint64, Up: math.MaxUint64, Down: math.MaxUint64}
}

// latch is one of a call.
func latch(floor, dir, gen int) api.Latch {
	return api.Latch{Call: api.Call{Floor: floor, Dir: dir}, Gen: gen}
}

// Of

// of holds what Of answers against what it has to.
func of(t *testing.T, floors []int, l []api.Latch, want ahead.Stops) {
	t.Helper()
	if got := ahead.Of(floors, l); got != want {
		t.Errorf("Of(%v, %v) = %x, not %x", floors, l, got, want)
	}
}

func TestOf(t *testing.T) {
	of(t, nil, nil, ahead.Stops{})
	of(t, []int{}, []api.Latch{}, ahead.Stops{})
	of(t, nil, []api.Latch{}, ahead.Stops{})
	of(t, []int{}, nil, ahead.Stops{})
	of(t, []int{3}, nil, ahead.Stops{Car: 8})
	of(t, nil, []api.Latch{latch(3, up, 1)}, ahead.Stops{Up: 8})
	of(t, nil, []api.Latch{latch(3, down, 1)}, ahead.Stops{Down: 8})
	of(t, []int{5, 0, 2}, nil, ahead.Stops{Car: 37})
	of(t, []int{2, 5, 0}, []api.Latch{latch(4, up, 1), latch(4, down, 3), latch(1, up, 2), latch(6, down, 9)}, ahead.Stops{Car: 37, Up: 18, Down: 80})
	of(t, []int{0, 63}, []api.Latch{latch(63, down, 1), latch(0, up, 1)}, ahead.Stops{Car: 1<<63 + 1, Up: 1, Down: 1 << 63})
	// Those that lead out of a house are calls of floors too.
	of(t, nil, []api.Latch{latch(63, up, 1), latch(0, down, 1)}, ahead.Stops{Up: 1 << 63, Down: 1})
}

func TestOfEachFloor(t *testing.T) {
	var every []int
	var both []api.Latch
	for floor := range mostFloors {
		n := power(floor)
		of(t, []int{floor}, nil, ahead.Stops{Car: n})
		of(t, nil, []api.Latch{latch(floor, up, 1)}, ahead.Stops{Up: n})
		of(t, nil, []api.Latch{latch(floor, down, 1)}, ahead.Stops{Down: n})
		of(t, []int{floor}, []api.Latch{latch(floor, up, 1), latch(floor, down, 1)}, ahead.Stops{Car: n, Up: n, Down: n})
		every = append(every, floor)
		both = append(both, latch(floor, down, floor), latch(floor, up, floor))
	}
	of(t, every, nil, ahead.Stops{Car: math.MaxUint64})
	of(t, nil, both, ahead.Stops{Up: math.MaxUint64, Down: math.MaxUint64})
	of(t, every, both, full())
	slices.Reverse(every)
	slices.Reverse(both)
	of(t, every, both, full())
}

// TestOfTheSameAgain: once is as often as there has to be one; a latch's Gen is nothing to it.
func TestOfTheSameAgain(t *testing.T) {
	for floor := range mostFloors {
		n := power(floor)
		of(t, []int{floor, floor}, nil, ahead.Stops{Car: n})
		of(t, []int{floor, floor, floor}, nil, ahead.Stops{Car: n})
		of(t, nil, []api.Latch{latch(floor, up, 1), latch(floor, up, 1)}, ahead.Stops{Up: n})
		of(t, nil, []api.Latch{latch(floor, down, 1), latch(floor, down, 1), latch(floor, down, 1)}, ahead.Stops{Down: n})
		of(t, nil, []api.Latch{latch(floor, down, 1), latch(floor, up, 2), latch(floor, down, 3), latch(floor, up, 2)}, ahead.Stops{Up: n, Down: n})
	}
	for _, gen := range []int{0, 1, 2, -1, math.MinInt, math.MaxInt} {
		of(t, nil, []api.Latch{latch(7, up, gen), latch(8, down, gen)}, ahead.Stops{Up: 128, Down: 256})
	}
}

// TestOfNoFloors: they are left out, alone and among others.
func TestOfNoFloors(t *testing.T) {
	with := ahead.Stops{Car: 1<<63 + 1, Up: 4, Down: 1 << 63}
	for _, floor := range outside() {
		of(t, []int{floor}, nil, ahead.Stops{})
		of(t, nil, []api.Latch{latch(floor, up, 1)}, ahead.Stops{})
		of(t, nil, []api.Latch{latch(floor, down, 1)}, ahead.Stops{})
		of(t, []int{0, floor, 63}, []api.Latch{latch(2, up, 1), latch(floor, up, 1), latch(floor, down, 1), latch(63, down, 1)}, with)
		of(t, []int{floor, 63, 0, floor}, []api.Latch{latch(floor, down, 2), latch(63, down, 1), latch(2, up, 1), latch(floor, up, 1)}, with)
	}
	of(t, outside(), nil, ahead.Stops{})
}

// TestOfNoDirs: a latch that goes neither up nor down is left out, alone and among others.
func TestOfNoDirs(t *testing.T) {
	for _, dir := range noWays() {
		for _, floor := range places() {
			of(t, nil, []api.Latch{latch(floor, dir, 1)}, ahead.Stops{})
		}
		of(t, []int{9}, []api.Latch{latch(5, dir, 1), latch(5, up, 1), latch(6, dir, 1), latch(7, down, 1), latch(8, dir, 1)}, ahead.Stops{Car: 512, Up: 32, Down: 128})
	}
}

// TestOfKeepsItsHandsOff: what is handed in stays as it is, what lies behind its length too.
func TestOfKeepsItsHandsOff(t *testing.T) {
	floors := []int{9, 3, 9, -1, 64, 0, 40, 41}
	l := []api.Latch{latch(9, up, 2), latch(3, down, 1), latch(9, up, 1), latch(64, up, 1), latch(5, 0, 1), latch(40, up, 1), latch(41, down, 1)}
	floorsWere, lWere := slices.Clone(floors), slices.Clone(l)
	of(t, floors[:6], l[:5], ahead.Stops{Car: 1 + 8 + 512, Up: 512, Down: 8})
	if !slices.Equal(floors, floorsWere) || !slices.Equal(l, lWere) {
		t.Errorf("Of left %v and %v", floors, l)
	}
	got := ahead.Of(floors, l)
	want := got
	clear(floors)
	clear(l)
	if got != want {
		t.Errorf("what Of answered became %x", got)
	}
}

// Put

// put holds what Put answers against what it has to.
func put(t *testing.T, s ahead.Stops, floor, dir int, want ahead.Stops) {
	t.Helper()
	if got := ahead.Put(s, api.Call{Floor: floor, Dir: dir}); got != want {
		t.Errorf("Put(%x, {%d %d}) = %x, not %x", s, floor, dir, got, want)
	}
}

func TestPut(t *testing.T) {
	put(t, ahead.Stops{}, 3, up, ahead.Stops{Up: 8})
	put(t, ahead.Stops{}, 3, down, ahead.Stops{Down: 8})
	put(t, ahead.Stops{}, 0, up, ahead.Stops{Up: 1})
	put(t, ahead.Stops{}, 0, down, ahead.Stops{Down: 1})
	put(t, ahead.Stops{}, 63, up, ahead.Stops{Up: 1 << 63})
	put(t, ahead.Stops{}, 63, down, ahead.Stops{Down: 1 << 63})
	s := ahead.Stops{Car: 21, Up: 6, Down: 8}
	put(t, s, 1, up, s)
	put(t, s, 2, up, s)
	put(t, s, 3, down, s)
	put(t, s, 0, up, ahead.Stops{Car: 21, Up: 7, Down: 8})
	put(t, s, 3, up, ahead.Stops{Car: 21, Up: 14, Down: 8})
	put(t, s, 2, down, ahead.Stops{Car: 21, Up: 6, Down: 12})
	put(t, s, 63, down, ahead.Stops{Car: 21, Up: 6, Down: 1<<63 + 8})
}

// TestPutOfEachCall: into stops that are empty, some and full; all else stays, and a second time it changes nothing.
func TestPutOfEachCall(t *testing.T) {
	for _, s := range stops() {
		for floor := range mostFloors {
			n := power(floor)
			want := s
			if !in(s.Up, floor) {
				want.Up += n
			}
			put(t, s, floor, up, want)
			put(t, want, floor, up, want)
			want = s
			if !in(s.Down, floor) {
				want.Down += n
			}
			put(t, s, floor, down, want)
			put(t, want, floor, down, want)
		}
	}
	for floor := range mostFloors {
		put(t, full(), floor, up, full())
		put(t, full(), floor, down, full())
	}
}

// TestPutOfNone: what is no floor, or goes neither way, changes nothing.
func TestPutOfNone(t *testing.T) {
	for _, s := range []ahead.Stops{{}, {Car: 21, Up: 6, Down: 8}, {Car: 1 << 63}, full()} {
		for _, floor := range outside() {
			put(t, s, floor, up, s)
			put(t, s, floor, down, s)
		}
		for _, dir := range noWays() {
			for _, floor := range places() {
				put(t, s, floor, dir, s)
			}
		}
	}
}

// TestPutLeavesTheOneItHad: s is a value; what it is put to is another one.
func TestPutLeavesTheOneItHad(t *testing.T) {
	s := ahead.Stops{Car: 1, Up: 2, Down: 4}
	one := ahead.Put(s, api.Call{Floor: 5, Dir: up})
	other := ahead.Put(s, api.Call{Floor: 6, Dir: down})
	if s != (ahead.Stops{Car: 1, Up: 2, Down: 4}) || one != (ahead.Stops{Car: 1, Up: 34, Down: 4}) || other != (ahead.Stops{Car: 1, Up: 2, Down: 68}) {
		t.Errorf("%x, %x and %x", s, one, other)
	}
}

// At

func TestAt(t *testing.T) {
	s := ahead.Of([]int{0, 5, 63}, []api.Latch{latch(7, up, 1), latch(8, down, 1)})
	for floor, want := range map[int]bool{0: true, 5: true, 63: true, 1: false, 4: false, 6: false, 7: false, 8: false, 62: false, -1: false, 64: false, 69: false, -59: false} {
		if ahead.At(s, floor) != want {
			t.Errorf("At(%x, %d) = %v", s, floor, !want)
		}
	}
}

// TestAtEachPlace: a hall call is no car call.
func TestAtEachPlace(t *testing.T) {
	for _, s := range stops() {
		for _, floor := range places() {
			if got := ahead.At(s, floor); got != in(s.Car, floor) {
				t.Errorf("At(%x, %d) = %v", s, floor, got)
			}
		}
	}
	for _, floor := range outside() {
		if ahead.At(full(), floor) {
			t.Errorf("a car call at %d", floor)
		}
	}
}

// Hall

// hall holds what Hall answers against what it has to.
func hall(t *testing.T, s ahead.Stops, floor, dir int, want bool) {
	t.Helper()
	if got := ahead.Hall(s, floor, dir); got != want {
		t.Errorf("Hall(%x, %d, %d) = %v", s, floor, dir, got)
	}
}

func TestHall(t *testing.T) {
	s := ahead.Of([]int{5}, []api.Latch{latch(0, up, 1), latch(7, up, 1), latch(7, down, 1), latch(63, down, 1)})
	for _, x := range []struct {
		floor      int
		isUp, isDn bool
	}{{0, true, false}, {7, true, true}, {63, false, true}, {5, false, false}, {1, false, false}, {6, false, false}, {8, false, false}, {62, false, false}, {-1, false, false}, {64, false, false}, {71, false, false}, {-57, false, false}} {
		hall(t, s, x.floor, up, x.isUp)
		hall(t, s, x.floor, down, x.isDn)
		hall(t, s, x.floor, none, false)
	}
}

// TestHallAtEachPlace: neither a car call nor one of the other way is that call.
func TestHallAtEachPlace(t *testing.T) {
	for _, s := range stops() {
		for _, floor := range places() {
			hall(t, s, floor, up, in(s.Up, floor))
			hall(t, s, floor, down, in(s.Down, floor))
		}
	}
	for _, floor := range outside() {
		hall(t, full(), floor, up, false)
		hall(t, full(), floor, down, false)
	}
}

func TestHallOfNoDirs(t *testing.T) {
	for _, dir := range noWays() {
		for _, floor := range places() {
			hall(t, full(), floor, dir, false)
			hall(t, ahead.Stops{}, floor, dir, false)
		}
	}
}

// Above, Below and Toward

// lies is what lies above floor and below it, each floor asked on its own.
func lies(s ahead.Stops, floor int) (over, under bool) {
	for f := range mostFloors {
		over = over || f > floor && some(s, f)
		under = under || f < floor && some(s, f)
	}
	return over, under
}

// sides holds what Above, Below and Toward answer against what they have to.
func sides(t *testing.T, s ahead.Stops, floor int, over, under bool) {
	t.Helper()
	if got := ahead.Above(s, floor); got != over {
		t.Errorf("Above(%x, %d) = %v", s, floor, got)
	}
	if got := ahead.Below(s, floor); got != under {
		t.Errorf("Below(%x, %d) = %v", s, floor, got)
	}
	for _, x := range []struct {
		dir  int
		want bool
	}{{up, over}, {down, under}, {none, false}, {2, false}, {-2, false}} {
		if got := ahead.Toward(s, floor, x.dir); got != x.want {
			t.Errorf("Toward(%x, %d, %d) = %v", s, floor, x.dir, got)
		}
	}
}

// sorts are one at that floor, of each of the three sorts.
func sorts(floor int) []ahead.Stops {
	n := power(floor)
	return []ahead.Stops{{Car: n}, {Up: n}, {Down: n}}
}

// TestSidesOfOne: of what is at the floor itself alone, just above it, just below it, and farther away, of each sort.
func TestSidesOfOne(t *testing.T) {
	for at := range mostFloors {
		for _, s := range sorts(at) {
			sides(t, s, at, false, false)
			sides(t, s, at-1, true, false)
			sides(t, s, at+1, false, true)
			for _, floor := range places() {
				sides(t, s, floor, at > floor, at < floor)
			}
		}
	}
}

// TestSidesAtTheEnds: floor 0, the last one, those next to them, one below 0, and MaxFloors.
func TestSidesAtTheEnds(t *testing.T) {
	for i := range 3 {
		first, last, middle := sorts(0)[i], sorts(63)[i], sorts(31)[i]
		sides(t, first, -1, true, false)
		sides(t, first, 0, false, false)
		sides(t, first, 1, false, true)
		sides(t, first, 63, false, true)
		sides(t, first, 64, false, true)
		sides(t, last, -1, true, false)
		sides(t, last, 0, true, false)
		sides(t, last, 62, true, false)
		sides(t, last, 63, false, false)
		sides(t, last, 64, false, true)
		sides(t, middle, 0, true, false)
		sides(t, middle, 63, false, true)
	}
	sides(t, full(), 0, true, false)
	sides(t, full(), 1, true, true)
	sides(t, full(), 62, true, true)
	sides(t, full(), 63, false, true)
}

// TestSidesOfDifferentSorts: what is above may be of another sort than what is below.
func TestSidesOfDifferentSorts(t *testing.T) {
	for _, s := range []ahead.Stops{{Car: 1 << 9, Up: 1 << 3}, {Car: 1 << 3, Up: 1 << 9}, {Car: 1 << 9, Down: 1 << 3}, {Car: 1 << 3, Down: 1 << 9}, {Up: 1 << 9, Down: 1 << 3}, {Up: 1 << 3, Down: 1 << 9}} {
		sides(t, s, 2, true, false)
		sides(t, s, 3, true, false)
		sides(t, s, 4, true, true)
		sides(t, s, 8, true, true)
		sides(t, s, 9, false, true)
		sides(t, s, 10, false, true)
	}
}

// TestSidesFarOutside: below 0 all lies above, from MaxFloors on all lies below.
func TestSidesFarOutside(t *testing.T) {
	for _, floor := range outside() {
		sides(t, full(), floor, floor < 0, floor > 0)
		sides(t, ahead.Stops{}, floor, false, false)
	}
}

func TestSidesOfNothing(t *testing.T) {
	for _, floor := range places() {
		sides(t, ahead.Stops{}, floor, false, false)
	}
}

func TestSidesOfAnyNumbers(t *testing.T) {
	for _, s := range stops() {
		for _, floor := range places() {
			over, under := lies(s, floor)
			sides(t, s, floor, over, under)
		}
	}
}

func TestTowardOfNoDirs(t *testing.T) {
	for _, dir := range noWays() {
		for _, floor := range places() {
			if ahead.Toward(full(), floor, dir) {
				t.Errorf("Toward(full, %d, %d)", floor, dir)
			}
		}
	}
}

// Near

// near holds what Near answers against what it has to.
func near(t *testing.T, s ahead.Stops, floor, want int) {
	t.Helper()
	if got := ahead.Near(s, floor); got != want {
		t.Errorf("Near(%x, %d) = %d, not %d", s, floor, got, want)
	}
}

func TestNear(t *testing.T) {
	for _, x := range []struct {
		floors      []int
		floor, want int
	}{
		// Above alone, below alone, at the floor itself alone, nothing.
		{[]int{6}, 5, up}, {[]int{63}, 5, up}, {[]int{63}, 0, up}, {[]int{1}, 0, up},
		{[]int{4}, 5, down}, {[]int{0}, 5, down}, {[]int{0}, 63, down}, {[]int{62}, 63, down},
		{[]int{5}, 5, none}, {[]int{0}, 0, none}, {[]int{63}, 63, none}, {nil, 5, none},
		// Both: either nearer, and as near; what is at the floor itself is nothing to it.
		{[]int{2, 6}, 5, up}, {[]int{4, 8}, 5, down}, {[]int{2, 8}, 5, up}, {[]int{4, 6}, 5, up}, {[]int{2, 9}, 5, down}, {[]int{1, 8}, 5, up},
		{[]int{2, 5, 6}, 5, up}, {[]int{4, 5, 8}, 5, down}, {[]int{2, 5, 8}, 5, up},
		// The nearest of several on a side, not the farthest, nor how many there are.
		{[]int{0, 1, 2, 3, 6}, 5, up}, {[]int{4, 7, 8, 9, 10}, 5, down}, {[]int{0, 4, 7}, 5, down}, {[]int{3, 6, 63}, 5, up}, {[]int{0, 1, 2, 8, 60}, 5, up},
		// To the ends.
		{[]int{0, 63}, 31, down}, {[]int{0, 63}, 32, up}, {[]int{0, 62}, 31, up}, {[]int{0, 63}, 1, down}, {[]int{0, 63}, 62, up}, {[]int{0, 2}, 1, up}, {[]int{61, 63}, 62, up}, {[]int{0, 1, 63}, 62, up}, {[]int{0, 62}, 63, down},
	} {
		near(t, ahead.Of(x.floors, nil), x.floor, x.want)
		for i := range x.floors {
			near(t, spread(x.floors, i), x.floor, x.want)
		}
	}
}

// spread is something at each of floors, of one sort after the other, beginning with the first-th.
func spread(floors []int, first int) ahead.Stops {
	var s ahead.Stops
	for i, floor := range floors {
		switch (i + first) % 3 {
		case 0:
			s.Car += power(floor)
		case 1:
			s.Up += power(floor)
		case 2:
			s.Down += power(floor)
		}
	}
	return s
}

// TestNearOfTwo takes each two floors, of each two sorts, from each floor.
func TestNearOfTwo(t *testing.T) {
	for a := range mostFloors {
		for b := range mostFloors {
			for floor := -2; floor <= mostFloors+1; floor++ {
				want := nearest([]int{a, b}, floor)
				for _, first := range sorts(a) {
					s := first
					near(t, ahead.Stops{Car: s.Car | power(b), Up: s.Up, Down: s.Down}, floor, want)
					near(t, ahead.Stops{Car: s.Car, Up: s.Up | power(b), Down: s.Down}, floor, want)
					near(t, ahead.Stops{Car: s.Car, Up: s.Up, Down: s.Down | power(b)}, floor, want)
				}
			}
		}
	}
}

// nearest is which way the nearest of floors is; floor is not far outside.
func nearest(floors []int, floor int) int {
	best, way := mostFloors*2, none
	for _, f := range floors {
		if f > floor && f-floor <= best {
			best, way = f-floor, up
		}
		if f < floor && floor-f < best {
			best, way = floor-f, down
		}
	}
	return way
}

// TestNearOfAnyNumbers: far outside, it is the way in.
func TestNearOfAnyNumbers(t *testing.T) {
	for _, s := range stops() {
		all := filled(s)
		for _, floor := range places() {
			// One floor outside is as good as farther out, as all is on one side.
			near(t, s, floor, nearest(all, min(max(floor, -1), mostFloors)))
		}
	}
}

func TestNearFarOutside(t *testing.T) {
	for _, floor := range outside() {
		want := up
		if floor > 0 {
			want = down
		}
		for at := range mostFloors {
			for _, s := range sorts(at) {
				near(t, s, floor, want)
			}
		}
		near(t, full(), floor, want)
		near(t, ahead.Stops{}, floor, none)
	}
}

func TestNearOfNothing(t *testing.T) {
	for _, floor := range places() {
		near(t, ahead.Stops{}, floor, none)
		if is(floor) {
			for _, s := range sorts(floor) {
				near(t, s, floor, none)
			}
			n := power(floor)
			near(t, ahead.Stops{Car: n, Up: n, Down: n}, floor, none)
		}
	}
}

// Floors

// filled is each floor at which there is something, rising.
func filled(s ahead.Stops) []int {
	var l []int
	for floor := range mostFloors {
		if some(s, floor) {
			l = append(l, floor)
		}
	}
	return l
}

// floors holds what Floors answers against what it has to.
func floors(t *testing.T, s ahead.Stops, want ...int) {
	t.Helper()
	if got := ahead.Floors(s); !slices.Equal(got, want) {
		t.Errorf("Floors(%x) = %v, not %v", s, got, want)
	}
}

func TestFloors(t *testing.T) {
	floors(t, ahead.Stops{})
	floors(t, ahead.Of(nil, nil))
	floors(t, ahead.Of([]int{-1, 64}, []api.Latch{latch(5, 0, 1), latch(-1, up, 1)}))
	floors(t, ahead.Of([]int{9, 3, 63, 9, 0}, nil), 0, 3, 9, 63)
	floors(t, ahead.Of(nil, []api.Latch{latch(9, up, 1), latch(2, up, 1)}), 2, 9)
	floors(t, ahead.Of(nil, []api.Latch{latch(9, down, 1), latch(2, down, 1)}), 2, 9)
	floors(t, ahead.Of([]int{9, 30}, []api.Latch{latch(9, up, 1), latch(9, down, 1), latch(7, down, 1), latch(62, up, 1)}), 7, 9, 30, 62)
}

func TestFloorsOfOne(t *testing.T) {
	for floor := range mostFloors {
		for _, s := range sorts(floor) {
			floors(t, s, floor)
		}
		n := power(floor)
		floors(t, ahead.Stops{Car: n, Up: n}, floor)
		floors(t, ahead.Stops{Car: n, Down: n}, floor)
		floors(t, ahead.Stops{Up: n, Down: n}, floor)
		floors(t, ahead.Stops{Car: n, Up: n, Down: n}, floor)
	}
}

func TestFloorsOfAll(t *testing.T) {
	var every []int
	for floor := range mostFloors {
		every = append(every, floor)
	}
	floors(t, full(), every...)
	floors(t, ahead.Stops{Car: math.MaxUint64}, every...)
	floors(t, ahead.Stops{Up: math.MaxUint64}, every...)
	floors(t, ahead.Stops{Down: math.MaxUint64}, every...)
	floors(t, ahead.Stops{Car: 0xffffffff, Up: 0xffff00000000, Down: 0xffff000000000000}, every...)
}

func TestFloorsOfAnyNumbers(t *testing.T) {
	for _, s := range stops() {
		floors(t, s, filled(s)...)
		// Of what it answers, as car calls, it answers the same.
		floors(t, ahead.Of(ahead.Floors(s), nil), filled(s)...)
	}
}

// TestFloorsIsNewMemory: what a caller writes into a list, or appends to it, no other one shows.
func TestFloorsIsNewMemory(t *testing.T) {
	for _, s := range []ahead.Stops{{}, {Car: 8}, {Car: 9, Up: 16, Down: 1 << 63}, full()} {
		one, other := ahead.Floors(s), ahead.Floors(s)
		room := one[:cap(one)]
		for i := range room {
			room[i] = -7
		}
		one = append(one, -8, -9)
		for i := range one {
			one[i] = -7
		}
		if !slices.Equal(other, filled(s)) {
			t.Errorf("of %x the other list became %v", s, other)
		}
		for _, x := range other[len(other):cap(other)] {
			if x == -7 {
				t.Errorf("of %x the spare room is shared", s)
			}
		}
		floors(t, s, filled(s)...)
	}
}
