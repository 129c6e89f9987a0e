package riser_test

import (
	"errors"
	"fmt"
	"math"
	"slices"
	"testing"

	"paternoster/api"
	"paternoster/riser"
)

// P10.1

// The directions, and how many floors there may be, told anew.
const (
	down       = -1
	up         = 1
	mostFloors = 64
)

// call is that of a floor and a direction.
func call(floor, dir int) api.Call {
	return api.Call{Floor: floor, Dir: dir}
}

// latch is a call of a Gen.
func latch(c api.Call, gen int) api.Latch {
	return api.Latch{Call: c, Gen: gen}
}

// inHouse are the calls that may be in a house of so many floors, in their order.
func inHouse(floors int) []api.Call {
	var l []api.Call
	for floor := range floors {
		if floor > 0 {
			l = append(l, call(floor, down))
		}
		if floor < floors-1 {
			l = append(l, call(floor, up))
		}
	}
	return l
}

// notInHouse are calls that may not be in a house of so many floors: they lead out of it, there is no such floor, or no such direction.
func notInHouse(floors int) []api.Call {
	l := []api.Call{call(0, down), call(floors-1, up)}
	for _, floor := range []int{-1, -2, -floors, -mostFloors, 1 - 256, 1 - 1<<32, floors, floors + 1, mostFloors, mostFloors + 1, 2 * mostFloors, 256, 257, 1 << 16, 1<<16 + 1, 1 << 32, 1<<32 + 1, math.MinInt, math.MinInt + 1, math.MaxInt, math.MaxInt - 1} {
		l = append(l, call(floor, down), call(floor, up), call(floor, 0))
	}
	for floor := range floors {
		for _, dir := range []int{0, 2, 3, -2, -3, 255, 256, 257, -255, -256, -257, 1<<32 + 1, 1<<32 - 1, math.MinInt, math.MaxInt} {
			l = append(l, call(floor, dir))
		}
	}
	return l
}

// sizes are the houses that are tried whole.
func sizes() []int {
	return []int{2, 3, 4, 5, 17, mostFloors - 1, mostFloors}
}

// made is a riser of so many floors.
func made(t *testing.T, floors int) *riser.Riser {
	t.Helper()
	r, err := riser.New(floors)
	if r == nil || err != nil {
		t.Fatalf("New(%d) = %v, %v", floors, r, err)
	}
	return r
}

// lit holds what r tells to be lit, by Lit, Is and Gen, against what has to be, in the calls' order.
func lit(t *testing.T, what string, r *riser.Riser, want ...api.Latch) {
	t.Helper()
	if got := r.Lit(); !slices.Equal(got, want) {
		t.Errorf("%s: Lit is %v, not %v", what, got, want)
	}
	for _, l := range want {
		is(t, what, r, l, true)
		is(t, what, r, latch(l.Call, l.Gen-1), false)
		is(t, what, r, latch(l.Call, l.Gen+1), false)
		gen(t, what, r, l.Call, l.Gen)
	}
}

// is holds what Is answers against what it has to.
func is(t *testing.T, what string, r *riser.Riser, l api.Latch, want bool) {
	t.Helper()
	if got := r.Is(l); got != want {
		t.Errorf("%s: Is(%v) = %v", what, l, got)
	}
}

// gen holds what Gen answers against what it has to.
func gen(t *testing.T, what string, r *riser.Riser, c api.Call, want int) {
	t.Helper()
	if got := r.Gen(c); got != want {
		t.Errorf("%s: Gen(%v) = %d, not %d", what, c, got, want)
	}
}

// pressed has c pressed, which has to make it lit with that Gen.
func pressed(t *testing.T, what string, r *riser.Riser, c api.Call, want int) {
	t.Helper()
	if l, ok := r.Press(c); !ok || l != latch(c, want) {
		t.Errorf("%s: Press(%v) = %v, %v, not Gen %d", what, c, l, ok, want)
	}
	is(t, what+", pressed", r, latch(c, want), true)
	gen(t, what+", pressed", r, c, want)
}

// notPressed has c pressed, which must not do anything.
func notPressed(t *testing.T, what string, r *riser.Riser, c api.Call) {
	t.Helper()
	was, last := r.Lit(), r.Gen(c)
	if l, ok := r.Press(c); ok || l != (api.Latch{}) {
		t.Errorf("%s: Press(%v) = %v, %v", what, c, l, ok)
	}
	lit(t, fmt.Sprint(what, ", behind a Press of ", c), r, was...)
	gen(t, what+", not pressed", r, c, last)
}

// cleared has l cleared, which has to put it out, and nothing else.
func cleared(t *testing.T, what string, r *riser.Riser, l api.Latch) {
	t.Helper()
	was := r.Lit()
	if !r.Clear(l) {
		t.Errorf("%s: Clear(%v) = false", what, l)
	}
	is(t, what+", cleared", r, l, false)
	gen(t, what+", cleared", r, l.Call, l.Gen)
	lit(t, fmt.Sprint(what, ", behind a Clear of ", l), r, slices.DeleteFunc(was, func(x api.Latch) bool { return x == l })...)
}

// notCleared has l cleared, which must not do anything.
func notCleared(t *testing.T, what string, r *riser.Riser, l api.Latch) {
	t.Helper()
	was, last := r.Lit(), r.Gen(l.Call)
	if r.Clear(l) {
		t.Errorf("%s: Clear(%v) = true", what, l)
	}
	lit(t, fmt.Sprint(what, ", behind a Clear of ", l), r, was...)
	gen(t, what+", not cleared", r, l.Call, last)
}

// some is a house of 6 floors: 2 Up is lit for the third time, 2 Down for the first, 5 Down for the second, and 4 Up was lit twice.
func some(t *testing.T) *riser.Riser {
	t.Helper()
	r := made(t, 6)
	for _, l := range []api.Latch{latch(call(2, up), 2), latch(call(4, up), 2), latch(call(5, down), 1)} {
		for n := range l.Gen {
			pressed(t, "made", r, l.Call, n+1)
			cleared(t, "made", r, latch(l.Call, n+1))
		}
	}
	pressed(t, "made", r, call(5, down), 2)
	pressed(t, "made", r, call(2, up), 3)
	pressed(t, "made", r, call(2, down), 1)
	lit(t, "made", r, someLit()...)
	return r
}

// someLit is what some has lit.
func someLit() []api.Latch {
	return []api.Latch{latch(call(2, down), 1), latch(call(2, up), 3), latch(call(5, down), 2)}
}

// checkSome holds a riser that is as some makes it against what it tells, and then becomes.
func checkSome(t *testing.T, what string, r *riser.Riser) {
	t.Helper()
	lit(t, what, r, someLit()...)
	for _, c := range inHouse(6) {
		switch c {
		case call(2, up), call(2, down), call(5, down):
			notPressed(t, what, r, c)
		case call(4, up):
			pressed(t, what, r, c, 3)
			cleared(t, what, r, latch(c, 3))
		default:
			gen(t, what, r, c, 0)
			pressed(t, what, r, c, 1)
			cleared(t, what, r, latch(c, 1))
		}
	}
	for _, l := range someLit() {
		notCleared(t, what, r, latch(l.Call, l.Gen+1))
		cleared(t, what, r, l)
		pressed(t, what, r, l.Call, l.Gen+1)
	}
	for _, c := range notInHouse(6) {
		notPressed(t, what, r, c)
	}
}

// New

func TestNew(t *testing.T) {
	for floors := 2; floors <= mostFloors; floors++ {
		r := made(t, floors)
		lit(t, fmt.Sprint("a new one of ", floors), r)
		for _, c := range inHouse(floors) {
			gen(t, "a new one", r, c, 0)
			is(t, "a new one", r, latch(c, 0), false)
			is(t, "a new one", r, latch(c, 1), false)
		}
	}
}

func TestNewOutOfRange(t *testing.T) {
	for _, floors := range []int{1, 0, -1, -2, -3, -mostFloors, mostFloors + 1, mostFloors + 2, 100, 2 * mostFloors, 255, 256, 256 + 2, 1<<16 + 5, 1<<32 + 5, math.MinInt, math.MinInt + 5, math.MaxInt} {
		r, err := riser.New(floors)
		if r != nil || err != api.ErrRange {
			t.Errorf("New(%d) = %v, %v", floors, r, err)
		}
		var at *api.At
		if errors.As(err, &at) {
			t.Errorf("New(%d) has a place: %d", floors, at.Pos)
		}
	}
}

func TestEachIsItsOwn(t *testing.T) {
	a, b := made(t, 5), made(t, 5)
	pressed(t, "a", a, call(2, up), 1)
	lit(t, "b, behind a's", b)
	gen(t, "b, behind a's", b, call(2, up), 0)
	pressed(t, "b", b, call(2, up), 1)
	cleared(t, "b", b, latch(call(2, up), 1))
	lit(t, "a, behind b's", a, latch(call(2, up), 1))
	lit(t, "a third", made(t, 5))
}

// May

func TestMay(t *testing.T) {
	for _, x := range []struct {
		floors int
		c      api.Call
		want   bool
	}{
		{2, call(0, up), true}, {2, call(0, down), false}, {2, call(1, up), false}, {2, call(1, down), true},
		{2, call(2, down), false}, {2, call(2, up), false}, {2, call(-1, up), false}, {2, call(-1, down), false},
		{3, call(0, up), true}, {3, call(0, down), false}, {3, call(1, up), true}, {3, call(1, down), true}, {3, call(2, up), false}, {3, call(2, down), true}, {3, call(3, down), false},
		{4, call(2, 0), false}, {4, call(2, 2), false}, {4, call(2, -2), false}, {4, call(0, 0), false}, {4, call(3, 0), false},
		{mostFloors, call(0, up), true}, {mostFloors, call(0, down), false},
		{mostFloors, call(62, up), true}, {mostFloors, call(62, down), true}, {mostFloors, call(63, up), false}, {mostFloors, call(63, down), true},
		{mostFloors, call(64, up), false}, {mostFloors, call(64, down), false}, {mostFloors, call(65, down), false},
		{mostFloors - 1, call(62, up), false}, {mostFloors - 1, call(62, down), true}, {mostFloors - 1, call(63, down), false},
		{6, call(math.MinInt, up), false}, {6, call(math.MinInt, down), false}, {6, call(math.MaxInt, up), false}, {6, call(math.MaxInt, down), false},
		{6, call(3, math.MinInt), false}, {6, call(3, math.MaxInt), false},
	} {
		if got := riser.May(x.floors, x.c); got != x.want {
			t.Errorf("May(%d, %v) = %v", x.floors, x.c, got)
		}
	}
}

func TestMayOfEachCall(t *testing.T) {
	for floors := 2; floors <= mostFloors; floors++ {
		may := inHouse(floors)
		for floor := -3; floor < mostFloors+3; floor++ {
			for dir := -3; dir <= 3; dir++ {
				if got := riser.May(floors, call(floor, dir)); got != slices.Contains(may, call(floor, dir)) {
					t.Errorf("May(%d, %v) = %v", floors, call(floor, dir), got)
				}
			}
		}
		for _, c := range notInHouse(floors) {
			if riser.May(floors, c) {
				t.Errorf("May(%d, %v) = true", floors, c)
			}
		}
	}
}

// TestMayInHousesThatNewRefuses: below 2 floors each call leads out, or has no floor; above MaxFloors what a call may be holds as its words say.
func TestMayInHousesThatNewRefuses(t *testing.T) {
	for _, floors := range []int{1, 0, -1, -2, -64, math.MinInt, math.MinInt + 1} {
		for _, floor := range []int{-65, -64, -3, -2, -1, 0, 1, 2, 63, math.MinInt, math.MaxInt} {
			for dir := -2; dir <= 2; dir++ {
				if riser.May(floors, call(floor, dir)) {
					t.Errorf("May(%d, %v) = true", floors, call(floor, dir))
				}
			}
		}
	}
	for _, floors := range []int{mostFloors + 1, 1000, 1<<32 + 1, math.MaxInt} {
		for _, c := range []api.Call{call(0, up), call(1, down), call(1, up), call(floors-2, up), call(floors-1, down)} {
			if !riser.May(floors, c) {
				t.Errorf("May(%d, %v) = false", floors, c)
			}
		}
		for _, c := range []api.Call{call(0, down), call(-1, up), call(1, 0), call(floors-1, up), call(floors, down), call(floors, up)} {
			if riser.May(floors, c) {
				t.Errorf("May(%d, %v) = true", floors, c)
			}
		}
	}
}

// Press

func TestPressOfEachCall(t *testing.T) {
	for _, floors := range sizes() {
		for _, c := range inHouse(floors) {
			r := made(t, floors)
			pressed(t, "alone", r, c, 1)
			lit(t, "alone", r, latch(c, 1))
			for _, other := range inHouse(floors) {
				if other != c {
					gen(t, "another one", r, other, 0)
					is(t, "another one", r, latch(other, 1), false)
				}
			}
		}
	}
}

func TestPressOfWhatMayNotBe(t *testing.T) {
	for _, floors := range sizes() {
		r := made(t, floors)
		for _, c := range notInHouse(floors) {
			notPressed(t, "none lit", r, c)
			lit(t, "none lit", r)
		}
		for _, c := range inHouse(floors) {
			pressed(t, "all", r, c, 1)
		}
		for _, c := range notInHouse(floors) {
			notPressed(t, "all lit", r, c)
		}
	}
}

func TestPressTwice(t *testing.T) {
	r := made(t, 5)
	pressed(t, "once", r, call(2, up), 1)
	for range 3 {
		notPressed(t, "twice", r, call(2, up))
		lit(t, "twice", r, latch(call(2, up), 1))
	}
	cleared(t, "behind a second Press", r, latch(call(2, up), 1))
	pressed(t, "behind a Clear", r, call(2, up), 2)
	notPressed(t, "behind a Clear, twice", r, call(2, up))
	lit(t, "at last", r, latch(call(2, up), 2))
}

func TestBothWaysAtOneFloor(t *testing.T) {
	for _, ways := range [][2]int{{up, down}, {down, up}} {
		r := made(t, 5)
		pressed(t, "one way", r, call(3, ways[0]), 1)
		gen(t, "the other way", r, call(3, ways[1]), 0)
		pressed(t, "the other way", r, call(3, ways[1]), 1)
		notPressed(t, "one way again", r, call(3, ways[0]))
		lit(t, "both", r, latch(call(3, down), 1), latch(call(3, up), 1))
		cleared(t, "one way", r, latch(call(3, ways[0]), 1))
		lit(t, "the other way alone", r, latch(call(3, ways[1]), 1))
		pressed(t, "one way anew", r, call(3, ways[0]), 2)
		notPressed(t, "the other way, lit still", r, call(3, ways[1]))
		cleared(t, "the other way", r, latch(call(3, ways[1]), 1))
		notCleared(t, "one way, with the other one's Gen", r, latch(call(3, ways[0]), 1))
		lit(t, "one way alone", r, latch(call(3, ways[0]), 2))
	}
}

// TestGenRises has a call lit so many times that no short number would hold it.
func TestGenRises(t *testing.T) {
	r := made(t, 3)
	c := call(1, down)
	pressed(t, "another one", r, call(1, up), 1)
	for n := 1; n <= 1<<17; n++ {
		l, ok := r.Press(c)
		if !ok || l != latch(c, n) || r.Gen(c) != n || !r.Is(l) || r.Is(latch(c, n-1)) || r.Clear(latch(c, n-1)) || !r.Clear(l) || r.Gen(c) != n {
			t.Fatalf("the %d-th time: %v, %v, Gen %d", n, l, ok, r.Gen(c))
		}
	}
	lit(t, "at last", r, latch(call(1, up), 1))
}

// Clear

func TestClear(t *testing.T) {
	for _, floors := range sizes() {
		r := made(t, floors)
		for _, c := range inHouse(floors) {
			pressed(t, "all", r, c, 1)
		}
		for _, c := range inHouse(floors) {
			cleared(t, "all lit", r, latch(c, 1))
			notCleared(t, "the same again", r, latch(c, 1))
			pressed(t, "behind a Clear", r, c, 2)
		}
	}
}

func TestClearWithAnotherGen(t *testing.T) {
	r := some(t)
	for _, l := range someLit() {
		for _, g := range []int{0, 1, 2, 3, 4, 5, -1, -2, -3, -l.Gen, l.Gen + 256, l.Gen + 1<<16, l.Gen + 1<<32, math.MinInt, math.MaxInt} {
			if g != l.Gen {
				is(t, "another Gen", r, latch(l.Call, g), false)
				notCleared(t, "another Gen", r, latch(l.Call, g))
			}
		}
		cleared(t, "its Gen", r, l)
	}
	lit(t, "at last", r)
}

func TestClearOfWhatIsNotLit(t *testing.T) {
	for _, floors := range sizes() {
		r := made(t, floors)
		for _, c := range inHouse(floors) {
			for _, g := range []int{0, 1, 2, -1, math.MinInt, math.MaxInt} {
				notCleared(t, "never lit", r, latch(c, g))
				is(t, "never lit", r, latch(c, g), false)
			}
		}
		lit(t, "never lit", r)
	}
	r := some(t)
	for g := -1; g < 5; g++ {
		notCleared(t, "lit no more", r, latch(call(4, up), g))
		is(t, "lit no more", r, latch(call(4, up), g), false)
		notCleared(t, "the other way alone is lit", r, latch(call(5, up), g))
	}
	pressed(t, "lit anew", r, call(4, up), 3)
}

func TestClearOfWhatMayNotBe(t *testing.T) {
	for _, floors := range sizes() {
		r := made(t, floors)
		for _, all := range []bool{false, true} {
			for _, c := range notInHouse(floors) {
				for g := -1; g < 3; g++ {
					notCleared(t, fmt.Sprint("no call, all lit: ", all), r, latch(c, g))
				}
			}
			for _, c := range inHouse(floors) {
				r.Press(c)
			}
		}
	}
}

func TestClearTwice(t *testing.T) {
	r := some(t)
	l := latch(call(2, up), 3)
	cleared(t, "once", r, l)
	for range 3 {
		notCleared(t, "again", r, l)
	}
	pressed(t, "lit anew", r, l.Call, 4)
	notCleared(t, "one of its last time", r, l)
	lit(t, "lit anew", r, latch(call(2, down), 1), latch(call(2, up), 4), latch(call(5, down), 2))
	cleared(t, "its new one", r, latch(l.Call, 4))
}

// Lit

func TestLitOfEachPair(t *testing.T) {
	for _, floors := range []int{2, 3, 7, mostFloors} {
		all := inHouse(floors)
		for i, a := range all {
			for _, b := range all[i+1:] {
				r, s := made(t, floors), made(t, floors)
				pressed(t, "in order", r, a, 1)
				pressed(t, "in order", r, b, 1)
				pressed(t, "out of order", s, b, 1)
				pressed(t, "out of order", s, a, 1)
				lit(t, "in order", r, latch(a, 1), latch(b, 1))
				lit(t, "out of order", s, latch(a, 1), latch(b, 1))
			}
		}
	}
}

func TestLitOfSome(t *testing.T) {
	r := made(t, mostFloors)
	lit(t, "none", r)
	for _, c := range []api.Call{call(63, down), call(2, up), call(40, down), call(0, up), call(2, down), call(10, up), call(62, up), call(9, up), call(40, up)} {
		pressed(t, "out of order", r, c, 1)
	}
	lit(t, "out of order", r, latch(call(0, up), 1), latch(call(2, down), 1), latch(call(2, up), 1), latch(call(9, up), 1), latch(call(10, up), 1),
		latch(call(40, down), 1), latch(call(40, up), 1), latch(call(62, up), 1), latch(call(63, down), 1))
	cleared(t, "one", r, latch(call(9, up), 1))
	cleared(t, "another one", r, latch(call(63, down), 1))
	pressed(t, "one anew", r, call(9, up), 2)
	lit(t, "out of order", r, latch(call(0, up), 1), latch(call(2, down), 1), latch(call(2, up), 1), latch(call(9, up), 2), latch(call(10, up), 1),
		latch(call(40, down), 1), latch(call(40, up), 1), latch(call(62, up), 1))
}

func TestLitOfAll(t *testing.T) {
	for _, floors := range sizes() {
		r := made(t, floors)
		all := inHouse(floors)
		var want []api.Latch
		for i := range all {
			pressed(t, "the last one first", r, all[len(all)-1-i], 1)
			want = append(want, latch(all[i], 1))
		}
		lit(t, "all", r, want...)
		for len(want) > 0 {
			cleared(t, "all, one after another", r, want[0])
			want = want[1:]
			lit(t, "all, one after another", r, want...)
		}
		for _, c := range all {
			gen(t, "none any more", r, c, 1)
		}
	}
}

func TestLitIsNewMemory(t *testing.T) {
	for n := range len(inHouse(8)) + 1 {
		r := made(t, 8)
		var want []api.Latch
		for _, c := range inHouse(8)[:n] {
			pressed(t, "some", r, c, 1)
			want = append(want, latch(c, 1))
		}
		c, one, other := r.Clone(), r.Lit(), r.Lit()
		_ = append(one, latch(call(66, 7), 8))
		one = one[:cap(one)]
		for i := range one {
			one[i] = latch(call(-77, 7), 8)
		}
		if !slices.Equal(other, want) {
			t.Errorf("%d lit: another answer shows it: %v", n, other)
		}
		lit(t, "written into", r, want...)
		lit(t, "a Clone", c, want...)
	}
}

func TestLitIsWhatItWas(t *testing.T) {
	r := some(t)
	told := r.Lit()
	pressed(t, "another one", r, call(0, up), 1)
	cleared(t, "one of them", r, latch(call(2, up), 3))
	pressed(t, "one of them anew", r, call(2, up), 4)
	r.Lit()
	if !slices.Equal(told, someLit()) {
		t.Errorf("Lit's answer became %v", told)
	}
}

// Is, and Gen

func TestIs(t *testing.T) {
	r := some(t)
	for _, c := range inHouse(6) {
		for _, g := range []int{-3, -2, -1, 0, 1, 2, 3, 4, 257, 1<<16 + 1, 1<<32 + 1, math.MinInt, math.MaxInt} {
			is(t, "some lit", r, latch(c, g), slices.Contains(someLit(), latch(c, g)))
		}
	}
	for _, l := range someLit() {
		cleared(t, "one after another", r, l)
		for g := -1; g < 5; g++ {
			is(t, "lit no more", r, latch(l.Call, g), false)
		}
	}
}

func TestIsAndGenOfWhatMayNotBe(t *testing.T) {
	for _, floors := range sizes() {
		r := made(t, floors)
		for range 3 {
			for _, c := range notInHouse(floors) {
				gen(t, "no call", r, c, 0)
				for g := -1; g < 3; g++ {
					is(t, "no call", r, latch(c, g), false)
				}
			}
			for _, c := range inHouse(floors) {
				r.Press(c)
				r.Clear(latch(c, 1))
			}
		}
	}
}

func TestGen(t *testing.T) {
	r := made(t, 5)
	c := call(4, down)
	gen(t, "never pressed", r, c, 0)
	for n := 1; n < 6; n++ {
		pressed(t, "pressed", r, c, n)
		notPressed(t, "lit", r, c)
		notCleared(t, "with another Gen", r, latch(c, n+1))
		gen(t, "lit", r, c, n)
		cleared(t, "cleared", r, latch(c, n))
		notCleared(t, "cleared twice", r, latch(c, n))
		gen(t, "cleared", r, c, n)
		gen(t, "never pressed", r, call(3, down), 0)
		gen(t, "never pressed", r, call(3, up), 0)
	}
}

func TestTellingChangesNothing(t *testing.T) {
	r := some(t)
	for range 5 {
		for _, c := range slices.Concat(inHouse(6), notInHouse(6)) {
			riser.May(6, c)
			r.Gen(c)
			r.Is(latch(c, 0))
			r.Is(latch(c, 1))
		}
		r.Lit()
		r.Clone()
	}
	checkSome(t, "told again and again", r)
}

func TestRefusedChangesNothing(t *testing.T) {
	for what, do := range map[string]func(r *riser.Riser){
		"Press of one that is lit":    func(r *riser.Riser) { r.Press(call(2, up)) },
		"Press out of the house":      func(r *riser.Riser) { r.Press(call(5, up)) },
		"Press of no floor":           func(r *riser.Riser) { r.Press(call(6, down)) },
		"Press of no direction":       func(r *riser.Riser) { r.Press(call(3, 0)) },
		"Clear of an elder Gen":       func(r *riser.Riser) { r.Clear(latch(call(2, up), 2)) },
		"Clear of a later Gen":        func(r *riser.Riser) { r.Clear(latch(call(2, up), 4)) },
		"Clear of Gen 0":              func(r *riser.Riser) { r.Clear(latch(call(2, up), 0)) },
		"Clear of one that was lit":   func(r *riser.Riser) { r.Clear(latch(call(4, up), 2)) },
		"Clear of one never lit":      func(r *riser.Riser) { r.Clear(latch(call(3, up), 0)) },
		"Clear of one, the other way": func(r *riser.Riser) { r.Clear(latch(call(5, up), 2)) },
		"Clear of no floor":           func(r *riser.Riser) { r.Clear(latch(call(-1, up), 0)) },
		"Clear of no direction":       func(r *riser.Riser) { r.Clear(latch(call(2, 0), 3)) },
	} {
		r := some(t)
		do(r)
		checkSome(t, what, r)
	}
}

// Clone

func TestClone(t *testing.T) {
	for what, do := range map[string]func(r *riser.Riser){
		"Press of a new one":       func(r *riser.Riser) { r.Press(call(0, up)) },
		"Press of one again":       func(r *riser.Riser) { r.Press(call(4, up)) },
		"Press of one that is lit": func(r *riser.Riser) { r.Press(call(2, up)) },
		"Clear":                    func(r *riser.Riser) { r.Clear(latch(call(2, up), 3)) },
		"Clear and Press":          func(r *riser.Riser) { r.Clear(latch(call(2, up), 3)); r.Press(call(2, up)) },
		"Clear of another Gen":     func(r *riser.Riser) { r.Clear(latch(call(2, up), 2)) },
		"Clear of all": func(r *riser.Riser) {
			for _, l := range r.Lit() {
				r.Clear(l)
			}
		},
	} {
		r := some(t)
		do(r.Clone())
		checkSome(t, what+" in a Clone's Clone", r.Clone().Clone())
		checkSome(t, what+" in a Clone", r)
		r = some(t)
		c := r.Clone()
		do(r)
		checkSome(t, what+" behind a Clone", c)
	}
}

func TestCloneOfNew(t *testing.T) {
	for _, floors := range sizes() {
		r := made(t, floors)
		c := r.Clone()
		if c == nil || c == r {
			t.Fatal("a Clone is the riser itself, or none")
		}
		lit(t, "a Clone of a new one", c)
		for _, x := range notInHouse(floors) {
			notPressed(t, "a Clone", c, x)
		}
		for _, x := range inHouse(floors) {
			pressed(t, "a Clone", c, x, 1)
			gen(t, "what it was made of", r, x, 0)
		}
		lit(t, "what it was made of", r)
	}
}

// Plays

// act is a Press of a latch's call, or a Clear of the latch.
type act struct {
	clear bool
	latch api.Latch
}

// told is a plain telling of the chapter: all that was done, one behind the other. Its list is never written into.
type told struct {
	floors int
	done   []act
}

// times is how many times c was lit, and how many times put out.
func (p told) times(c api.Call) (lit, out int) {
	for _, x := range p.done {
		if x.latch.Call != c {
			continue
		}
		if x.clear {
			out++
		} else {
			lit++
		}
	}
	return lit, out
}

// do is what the riser answers to x, and what it is then.
func (p told) do(x act) (api.Latch, bool, told) {
	on, off := p.times(x.latch.Call)
	then := told{p.floors, slices.Concat(p.done, []act{x})}
	if x.clear {
		if on > off && on == x.latch.Gen {
			return api.Latch{}, true, then
		}
		return api.Latch{}, false, p
	}
	if on > off || !slices.Contains(inHouse(p.floors), x.latch.Call) {
		return api.Latch{}, false, p
	}
	return latch(x.latch.Call, on+1), true, then
}

// same holds all that r tells against p.
func (p told) same(r *riser.Riser) bool {
	var want []api.Latch
	for _, c := range inHouse(p.floors) {
		on, off := p.times(c)
		if on > off {
			want = append(want, latch(c, on))
		}
		if r.Gen(c) != on {
			return false
		}
		for g := range 4 {
			if r.Is(latch(c, g)) != (on > off && g == on) {
				return false
			}
		}
	}
	return slices.Equal(r.Lit(), want)
}

// acts are those of which a play is made.
func acts(floors int) []act {
	l := []act{{latch: latch(call(0, down), 0)}, {latch: latch(call(1, 0), 0)}, {clear: true, latch: latch(call(floors, down), 0)}}
	for _, c := range inHouse(floors) {
		l = append(l, act{latch: latch(c, 0)})
		for g := range 3 {
			l = append(l, act{clear: true, latch: latch(c, g)})
		}
	}
	return l
}

// play makes each play of so many acts, each on a Clone of r, so that none of them may be seen in r.
func play(t *testing.T, what string, r *riser.Riser, p told, left int) {
	if left == 0 {
		return
	}
	for _, x := range acts(p.floors) {
		c := r.Clone()
		want, wantOk, q := p.do(x)
		var got api.Latch
		var ok bool
		if x.clear {
			ok = c.Clear(x.latch)
		} else {
			got, ok = c.Press(x.latch.Call)
		}
		now := what + fmt.Sprint(" ", x)
		if got != want || ok != wantOk || !q.same(c) {
			t.Fatalf("play%s: another answer: %v, %v, not %v, %v", now, got, ok, want, wantOk)
		}
		play(t, now, c, q, left-1)
	}
	if !p.same(r) {
		t.Fatalf("play%s: seen in what it was made of", what)
	}
}

func TestEachPlay(t *testing.T) {
	play(t, " of 2 floors:", made(t, 2), told{floors: 2}, 4)
	play(t, " of 3 floors:", made(t, 3), told{floors: 3}, 3)
}

// TestEachPlayOfOnesThatWereLit has both calls of a house of 2 floors at each of their first times, lit and not.
func TestEachPlayOfOnesThatWereLit(t *testing.T) {
	for n := range 6 {
		for m := range 6 {
			r, p := made(t, 2), told{floors: 2}
			for i, x := range inHouse(2) {
				for k := range []int{n, m}[i] {
					a := act{clear: k%2 == 1, latch: latch(x, k/2+1)}
					_, _, p = p.do(a)
					if a.clear {
						cleared(t, "made", r, a.latch)
					} else {
						pressed(t, "made", r, a.latch.Call, k/2+1)
					}
				}
			}
			play(t, fmt.Sprint(" from ", n, " and ", m, ":"), r, p, 2)
		}
	}
}
