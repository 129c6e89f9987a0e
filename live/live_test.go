package live_test

import (
	"fmt"
	"math"
	"slices"
	"testing"

	"paternoster/live"
)

// P7.1

// How many cars there may be, and how many ticks one is held to be alive, told anew.
const (
	mostCars = 16
	hold     = 3
)

// beat is what Hear is handed.
type beat struct {
	car        int
	life, seen int64
	out        bool
}

// noCars are numbers that no car has.
func noCars() []int {
	return []int{-1, -2, math.MinInt, mostCars, mostCars + 1, 1 << 32, math.MaxInt}
}

// below0 are lives and seens that can't be.
func below0() []int64 {
	return []int64{-1, -2, -1 << 32, math.MinInt64 + 1, math.MinInt64}
}

// hear has x heard, and holds what Hear answers against what it has to.
func hear(t *testing.T, what string, x *live.Table, b beat, want bool) {
	t.Helper()
	if got := x.Hear(b.car, b.life, b.seen, b.out); got != want {
		t.Errorf("%s: Hear(%v) = %v", what, b, got)
	}
}

// heard is a table that heard these, one by one.
func heard(t *testing.T, l ...beat) *live.Table {
	t.Helper()
	x := new(live.Table)
	for _, b := range l {
		hear(t, "made", x, b, true)
	}
	return x
}

// tick makes so many ticks.
func tick(x *live.Table, n int) {
	for range n {
		x.Tick()
	}
}

// check holds what x tells but lives against what it has to.
func check(t *testing.T, what string, x *live.Table, seen int64, alive ...int) {
	t.Helper()
	if got := x.Alive(); !slices.Equal(got, alive) {
		t.Errorf("%s: Alive is %v, not %v", what, got, alive)
	}
	if got := x.Seen(); got != seen {
		t.Errorf("%s: Seen is %d, not %d", what, got, seen)
	}
}

// checkLife holds the life of a car that was heard against what it has to be.
func checkLife(t *testing.T, what string, x *live.Table, car int, want int64) {
	t.Helper()
	if life, ok := x.Life(car); life != want || !ok {
		t.Errorf("%s: Life(%d) = %d, %v, not %d", what, car, life, ok, want)
	}
}

// checkNoLife holds the life of cars that were never heard against none.
func checkNoLife(t *testing.T, what string, x *live.Table, cars ...int) {
	t.Helper()
	for _, car := range cars {
		if life, ok := x.Life(car); life != 0 || ok {
			t.Errorf("%s: Life(%d) = %d, %v, not 0, false", what, car, life, ok)
		}
	}
}

// everyCar are all cars that may be.
func everyCar() []int {
	var l []int
	for car := range mostCars {
		l = append(l, car)
	}
	return l
}

func TestZeroValue(t *testing.T) {
	var x live.Table
	for n := range hold + 3 {
		check(t, fmt.Sprint("a zero value, ticks: ", n), &x, 0)
		checkNoLife(t, "a zero value", &x, append(noCars(), everyCar()...)...)
		c := x.Clone()
		check(t, "its Clone", c, 0)
		checkNoLife(t, "its Clone", c, append(noCars(), everyCar()...)...)
		x.Tick()
	}
	hear(t, "a zero value", &x, beat{car: 2, life: 3, seen: 4}, true)
	check(t, "a zero value that heard one", &x, 4, 2)
}

func TestHearOfEachCar(t *testing.T) {
	for _, car := range everyCar() {
		x := heard(t, beat{car, int64(car) + 5, int64(car) + 9, false})
		check(t, fmt.Sprint("car ", car), x, int64(car)+9, car)
		checkLife(t, "one car", x, car, int64(car)+5)
		others := slices.DeleteFunc(everyCar(), func(k int) bool { return k == car })
		checkNoLife(t, "the others", x, append(noCars(), others...)...)
	}
}

func TestHearOfNoCar(t *testing.T) {
	full := allHeard(t)
	for _, car := range noCars() {
		for _, out := range []bool{false, true} {
			x := new(live.Table)
			hear(t, "nobody heard", x, beat{car, 99, 99, out}, false)
			check(t, "nobody heard", x, 0)
			checkNoLife(t, "nobody heard", x, append(noCars(), everyCar()...)...)
			hear(t, "all heard", full, beat{car, 99, 99, out}, false)
			check(t, "all heard", full, 7, everyCar()...)
			checkNoLife(t, "all heard", full, car)
		}
	}
	for _, car := range everyCar() {
		checkLife(t, "all heard", full, car, 1)
	}
}

// allHeard is a table that heard each car, in a turned order, of life 1, seen 7 at most.
func allHeard(t *testing.T) *live.Table {
	t.Helper()
	x := new(live.Table)
	for i := range mostCars {
		hear(t, "all", x, beat{(i*11 + 5) % mostCars, 1, int64(i % 8), false}, true)
	}
	return x
}

func TestLifeAndSeenAtTheirEdges(t *testing.T) {
	edges := []int64{0, 1, 2, 1<<31 - 1, 1 << 31, 1 << 32, 1<<48 - 1, 1 << 48, math.MaxInt64 - 1, math.MaxInt64}
	for _, life := range edges {
		for _, seen := range edges {
			for _, car := range []int{0, 7, mostCars - 1} {
				x := heard(t, beat{car, life, seen, false})
				check(t, "an edge", x, seen, car)
				checkLife(t, "an edge", x, car, life)
				hear(t, "the same again", x, beat{car, life, seen, false}, true)
				check(t, "the same again", x, seen, car)
				checkLife(t, "the same again", x, car, life)
			}
		}
	}
}

func TestBelow0(t *testing.T) {
	for _, n := range below0() {
		for _, bad := range []beat{{4, n, 9, false}, {4, 9, n, false}, {4, n, n, false}, {4, n, 9, true}, {4, 9, n, true}, {4, 0, n, false}, {4, n, 0, false}} {
			x := new(live.Table)
			hear(t, "nobody heard", x, bad, false)
			check(t, "nobody heard", x, 0)
			checkNoLife(t, "nobody heard", x, everyCar()...)
			checkChangesNothing(t, bad, beat{4, 0, 0, false})
			checkChangesNothing(t, bad, beat{4, 3, 2, false})
			checkChangesNothing(t, bad, beat{4, 3, 2, true})
		}
	}
}

// checkChangesNothing holds a table that heard b, then bad at any age, against one that heard just b.
func checkChangesNothing(t *testing.T, bad, b beat) {
	t.Helper()
	for age := range hold + 3 {
		x, y := heard(t, b), heard(t, b)
		tick(x, age)
		tick(y, age)
		what := fmt.Sprintf("%v, %d ticks, then %v", b, age, bad)
		hear(t, what, x, bad, false)
		for range hold + 2 {
			check(t, what, x, y.Seen(), y.Alive()...)
			checkLife(t, what, x, b.car, b.life)
			x.Tick()
			y.Tick()
		}
	}
}

func TestLesserLifeChangesNothing(t *testing.T) {
	for _, was := range []beat{{5, 8, 20, false}, {5, 8, 20, true}, {0, 1, 0, false}, {15, math.MaxInt64, math.MaxInt64, true}} {
		for _, life := range []int64{was.life - 1, was.life / 2, 0} {
			for _, seen := range []int64{0, was.seen, 99, math.MaxInt64} {
				checkChangesNothing(t, beat{was.car, life, seen, false}, was)
				checkChangesNothing(t, beat{was.car, life, seen, true}, was)
			}
		}
	}
}

func TestLesserLifeOfAnotherCar(t *testing.T) {
	x := heard(t, beat{3, 50, 1, false}, beat{4, 2, 1, false}, beat{2, 0, 1, false})
	check(t, "each of its own life", x, 1, 2, 3, 4)
	checkLife(t, "each of its own life", x, 2, 0)
	checkLife(t, "each of its own life", x, 3, 50)
	checkLife(t, "each of its own life", x, 4, 2)
}

func TestGreaterLife(t *testing.T) {
	x := heard(t, beat{6, 0, 0, false})
	for _, life := range []int64{1, 2, 10, 1 << 40, math.MaxInt64} {
		hear(t, "greater", x, beat{6, life, 0, false}, true)
		checkLife(t, "greater", x, 6, life)
		hear(t, "the same", x, beat{6, life, 0, false}, true)
		checkLife(t, "the same", x, 6, life)
		hear(t, "one less", x, beat{6, life - 1, 99, true}, false)
		checkLife(t, "one less", x, 6, life)
		check(t, "rising lives", x, 0, 6)
	}
}

func TestAge(t *testing.T) {
	x := heard(t, beat{9, 4, 3, false})
	for n := range hold + 1 {
		check(t, fmt.Sprint("ticks: ", n), x, 3, 9)
		x.Tick()
	}
	for range 5 {
		check(t, "too old", x, 3)
		checkLife(t, "too old", x, 9, 4)
		x.Tick()
	}
}

func TestAgeOfEachIsItsOwn(t *testing.T) {
	x := heard(t, beat{0, 1, 0, false})
	x.Tick()
	hear(t, "a tick later", x, beat{15, 1, 0, false}, true)
	x.Tick()
	hear(t, "two ticks later", x, beat{7, 1, 0, false}, true)
	for _, want := range [][]int{{0, 7, 15}, {0, 7, 15}, {7, 15}, {7}, {}, {}} {
		check(t, "heard one behind the other", x, 0, want...)
		x.Tick()
	}
}

func TestNeverAliveAgainByTicks(t *testing.T) {
	x := heard(t, beat{1, 4, 3, false}, beat{2, 0, 0, true})
	tick(x, hold+1)
	for n := range 1<<17 + 5 {
		if got := x.Alive(); len(got) > 0 {
			t.Fatalf("%d ticks behind: Alive is %v", n, got)
		}
		x.Tick()
	}
	check(t, "long behind", x, 3)
	checkLife(t, "long behind", x, 1, 4)
	hear(t, "long behind", x, beat{1, 3, 9, false}, false)
	check(t, "a lesser life, long behind", x, 3)
	hear(t, "long behind", x, beat{1, 4, 0, false}, true)
	check(t, "the same life, long behind", x, 3, 1)
}

func TestHeardAgainInTime(t *testing.T) {
	for _, life := range []int64{4, 5} {
		for age := range hold + 1 {
			x := heard(t, beat{9, 4, 3, false}, beat{10, 4, 3, false})
			tick(x, age)
			hear(t, "in time", x, beat{9, life, 1, false}, true)
			checkLife(t, "in time", x, 9, life)
			tick(x, hold-age)
			check(t, "both of them are heard", x, 3, 9, 10)
			tick(x, age)
			if age > 0 {
				check(t, "of age Hold again", x, 3, 9)
			}
			x.Tick()
			check(t, "one more", x, 3)
			checkLife(t, "one more", x, 9, life)
		}
	}
}

func TestHeardAgainTooLate(t *testing.T) {
	for late := 1; late < 5; late++ {
		x := heard(t, beat{9, 4, 3, false})
		tick(x, hold+late)
		hear(t, "a lesser life, too late", x, beat{9, 3, 5, false}, false)
		check(t, "a lesser life, too late", x, 3)
		checkLife(t, "a lesser life, too late", x, 9, 4)
		hear(t, "its life, too late", x, beat{9, 4, 0, false}, true)
		tick(x, hold)
		check(t, "its life, too late, of age Hold", x, 3, 9)
		x.Tick()
		check(t, "its life, too late, one more", x, 3)
		hear(t, "a greater life, too late", x, beat{9, 6, 5, false}, true)
		check(t, "a greater life, too late", x, 5, 9)
		checkLife(t, "a greater life, too late", x, 9, 6)
	}
}

func TestOut(t *testing.T) {
	x := heard(t, beat{3, 2, 1, false}, beat{4, 2, 1, true}, beat{5, 2, 1, false})
	check(t, "one is out", x, 1, 3, 5)
	checkLife(t, "one is out", x, 4, 2)
	hear(t, "another one", x, beat{3, 2, 1, true}, true)
	check(t, "two are out", x, 1, 5)
	hear(t, "not out any more", x, beat{4, 2, 1, false}, true)
	check(t, "not out any more", x, 1, 4, 5)
	hear(t, "out in a greater life", x, beat{5, 3, 1, true}, true)
	check(t, "out in a greater life", x, 1, 4)
	hear(t, "back in a greater life", x, beat{3, 3, 1, false}, true)
	check(t, "back in a greater life", x, 1, 3, 4)
	hear(t, "out in a lesser life", x, beat{3, 2, 1, true}, false)
	check(t, "out in a lesser life", x, 1, 3, 4)
	hear(t, "back in a lesser life", x, beat{5, 2, 1, false}, false)
	check(t, "back in a lesser life", x, 1, 3, 4)
}

func TestOutStaysOutTillHeard(t *testing.T) {
	x := heard(t, beat{0, 2, 1, true})
	for range 2 * hold {
		check(t, "out, and ticked", x, 1)
		checkLife(t, "out, and ticked", x, 0, 2)
		x.Tick()
	}
	hear(t, "out, too old, back", x, beat{0, 2, 0, false}, true)
	check(t, "out, too old, back", x, 1, 0)
}

func TestOutIsHeardToo(t *testing.T) {
	x := heard(t, beat{0, 2, 1, false})
	tick(x, hold)
	hear(t, "out", x, beat{0, 2, 1, true}, true)
	x.Tick()
	check(t, "out", x, 1)
	hear(t, "back", x, beat{0, 2, 1, false}, true)
	tick(x, hold)
	check(t, "back, of age Hold", x, 1, 0)
}

func TestSeen(t *testing.T) {
	x := new(live.Table)
	for _, y := range []struct {
		b    beat
		want int64
	}{
		{beat{1, 1, 0, false}, 0},
		{beat{1, 1, 5, false}, 5},
		{beat{2, 1, 4, false}, 5},
		{beat{1, 1, 3, false}, 5},
		{beat{1, 9, 0, false}, 5},
		{beat{3, 0, 6, true}, 6},
		{beat{3, 0, 5, false}, 6},
		{beat{15, 0, 7, false}, 7},
		{beat{0, 0, 8, true}, 8},
		{beat{0, 0, math.MaxInt64 - 1, false}, math.MaxInt64 - 1},
		{beat{1, 9, math.MaxInt64, false}, math.MaxInt64},
		{beat{1, 9, 2, false}, math.MaxInt64},
	} {
		hear(t, "seen", x, y.b, true)
		if got := x.Seen(); got != y.want {
			t.Errorf("%v: Seen is %d, not %d", y.b, got, y.want)
		}
	}
}

func TestSeenStays(t *testing.T) {
	x := heard(t, beat{1, 1, 5, false}, beat{2, 1, 6, true})
	for range 3 * hold {
		x.Tick()
	}
	check(t, "none is heard any more", x, 6)
	hear(t, "a lesser seen", x, beat{1, 1, 5, false}, true)
	check(t, "a lesser seen", x, 6, 1)
	hear(t, "a greater life, seen 0", x, beat{2, 2, 0, false}, true)
	check(t, "a greater life, seen 0", x, 6, 1, 2)
}

func TestLifeOfNone(t *testing.T) {
	x := heard(t, beat{0, 5, 9, false}, beat{15, 0, 9, false}, beat{8, 3, 9, true})
	for range 2 * hold {
		checkNoLife(t, "never heard", x, 1, 2, 7, 9, 14)
		checkNoLife(t, "no car", x, noCars()...)
		checkLife(t, "heard", x, 0, 5)
		checkLife(t, "heard, of life 0", x, 15, 0)
		checkLife(t, "heard, out", x, 8, 3)
		x.Tick()
	}
}

func TestAliveOfAll(t *testing.T) {
	x := allHeard(t)
	for range hold + 1 {
		check(t, "all", x, 7, everyCar()...)
		x.Tick()
	}
	check(t, "all are too old", x, 7)
	for i, car := range []int{15, 0, 8, 3, 14, 1} {
		hear(t, "again", x, beat{car, 1, 0, false}, true)
		want := []int{15, 0, 8, 3, 14, 1}[:i+1]
		slices.Sort(want)
		check(t, "rising", x, 7, want...)
	}
}

func TestTellingChangesNothing(t *testing.T) {
	x := heard(t, beat{3, 2, 5, false})
	for range 10 {
		for car := -2; car < mostCars+2; car++ {
			x.Life(car)
		}
		check(t, "told again and again", x, 5, 3)
	}
	checkLife(t, "told again and again", x, 3, 2)
	checkNoLife(t, "told again and again", x, append(noCars(), 0, 2, 4, 15)...)
}

func TestAliveIsNewMemory(t *testing.T) {
	for n := range mostCars + 1 {
		x := new(live.Table)
		for car := range n {
			hear(t, "some", x, beat{car, 1, 1, false}, true)
		}
		want := everyCar()[:n]
		c, one, other := x.Clone(), x.Alive(), x.Alive()
		_ = append(one, 66)
		one = one[:cap(one)]
		for i := range one {
			one[i] = -77
		}
		if !slices.Equal(other, want) {
			t.Errorf("%d alive: another answer shows it: %v", n, other)
		}
		check(t, "written into", x, x.Seen(), want...)
		check(t, "a Clone", c, x.Seen(), want...)
	}
}

func TestAliveIsWhatItWas(t *testing.T) {
	x := heard(t, beat{3, 2, 5, false}, beat{7, 2, 5, false})
	told := x.Alive()
	hear(t, "another one", x, beat{0, 2, 5, false}, true)
	hear(t, "out", x, beat{3, 2, 5, true}, true)
	x.Alive()
	tick(x, hold+1)
	x.Alive()
	if !slices.Equal(told, []int{3, 7}) {
		t.Errorf("Alive's answer became %v", told)
	}
}

func TestClone(t *testing.T) {
	for what, do := range map[string]func(x *live.Table){
		"Tick":           func(x *live.Table) { x.Tick() },
		"Ticks":          func(x *live.Table) { tick(x, hold+1) },
		"another car":    func(x *live.Table) { x.Hear(15, 9, 99, false) },
		"the same again": func(x *live.Table) { x.Hear(3, 2, 99, false) },
		"a greater life": func(x *live.Table) { x.Hear(3, 9, 0, false) },
		"out":            func(x *live.Table) { x.Hear(3, 2, 0, true) },
		"not out":        func(x *live.Table) { x.Hear(4, 2, 0, false) },
	} {
		x := heard(t, beat{3, 2, 5, false}, beat{4, 2, 5, true}, beat{5, 0, 1, false})
		tick(x, hold-1)
		do(x.Clone())
		checkMade(t, what+" in a Clone", x.Clone())
		c := x.Clone()
		do(x)
		checkMade(t, what+" behind a Clone", c)
	}
}

// checkMade holds a table that is as TestClone makes it against what it tells, and then becomes.
func checkMade(t *testing.T, what string, x *live.Table) {
	t.Helper()
	check(t, what, x, 5, 3, 5)
	checkLife(t, what, x, 3, 2)
	checkLife(t, what, x, 4, 2)
	checkLife(t, what, x, 5, 0)
	checkNoLife(t, what, x, append(noCars(), 0, 15)...)
	x.Tick()
	check(t, what+", of age Hold", x, 5, 3, 5)
	x.Tick()
	check(t, what+", one more", x, 5)
}

// told is a plain telling of the chapter: all that was heard, each with the tick at which it was, and what follows from it. Its list is never written into.
type told struct {
	beats []beat
	at    []int
	now   int
}

// last is the place of what was heard last of car; -1: nothing. No later one has a lesser life.
func (p *told) last(car int) int {
	for i := len(p.beats) - 1; i >= 0; i-- {
		if p.beats[i].car == car {
			return i
		}
	}
	return -1
}

func (p *told) hear(b beat) bool {
	if b.car < 0 || b.car >= mostCars || b.life < 0 || b.seen < 0 {
		return false
	}
	if i := p.last(b.car); i >= 0 && p.beats[i].life > b.life {
		return false
	}
	p.beats = append(slices.Clone(p.beats), b)
	p.at = append(slices.Clone(p.at), p.now)
	return true
}

func (p *told) alive() []int {
	var l []int
	for car := range mostCars {
		if i := p.last(car); i >= 0 && !p.beats[i].out && p.now-p.at[i] <= hold {
			l = append(l, car)
		}
	}
	return l
}

func (p *told) seen() int64 {
	most := int64(0)
	for _, b := range p.beats {
		most = max(most, b.seen)
	}
	return most
}

// same holds all that x tells against p.
func (p *told) same(x *live.Table) bool {
	if !slices.Equal(x.Alive(), p.alive()) || x.Seen() != p.seen() {
		return false
	}
	for car := -1; car <= mostCars; car++ {
		life, ok := x.Life(car)
		i := p.last(car)
		if ok != (i >= 0) || ok && life != p.beats[i].life || !ok && life != 0 {
			return false
		}
	}
	return true
}

// beats are those of which a play's calls are made.
func beats() []beat {
	return []beat{
		{0, 1, 2, false}, {0, 1, 0, true}, {0, 2, 1, false}, {0, 0, 3, false},
		{15, 0, 1, false}, {15, 3, 4, true},
		{-1, 1, 5, false}, {16, 1, 5, false},
	}
}

// play makes each play of so many calls, each on a Clone of x, so that none of them may be seen in x.
func play(t *testing.T, what string, x *live.Table, p told, calls int) {
	if calls == 0 {
		return
	}
	for _, b := range beats() {
		c, q := x.Clone(), p
		now := what + fmt.Sprint(" ", b)
		if c.Hear(b.car, b.life, b.seen, b.out) != q.hear(b) || !q.same(c) {
			t.Fatalf("play%s: another answer", now)
		}
		play(t, now, c, q, calls-1)
	}
	c, q := x.Clone(), p
	c.Tick()
	q.now++
	if now := what + " tick"; !q.same(c) {
		t.Fatalf("play%s: another answer", now)
	} else {
		play(t, now, c, q, calls-1)
	}
	if !p.same(x) {
		t.Fatalf("play%s: seen in what it was made of", what)
	}
}

func TestEachPlay(t *testing.T) {
	play(t, ":", new(live.Table), told{}, 4)
}

// TestEachPlayOfOnesThatAge has ones of each age up to what is too old, out or not.
func TestEachPlayOfOnesThatAge(t *testing.T) {
	for age := range hold + 3 {
		for _, out := range []bool{false, true} {
			b, later := beat{0, 1, 1, out}, beat{15, 2, 0, !out}
			x, p := new(live.Table), told{}
			hear(t, "aged", x, b, p.hear(b))
			x.Tick()
			p.now++
			hear(t, "aged", x, later, p.hear(later))
			tick(x, age)
			p.now += age
			play(t, fmt.Sprint(" of age ", age, ", ", out, ":"), x, p, 3)
		}
	}
}
