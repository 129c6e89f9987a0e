package found_test

import (
	"math"
	"math/big"
	"reflect"
	"slices"
	"testing"

	"paternoster/found"
)

// P21.1

// canary stands ahead of and behind what is handed in, where nobody may read or write; it is less than any car, so that it is told where it is read.
const canary = math.MinInt + 7

// within is l with canaries ahead of it and behind it in its memory, all of it told by the second answer.
func within(l []int) (part, all []int) {
	all = slices.Concat([]int{canary, canary}, l, []int{canary, canary, canary})
	return all[2 : 2+len(l)], all
}

// spoil writes into l, behind its length too, and appends to it.
func spoil(l []int) {
	_ = append(l, -66)
	l = l[:cap(l)]
	for i := range l {
		l[i] = -77
	}
}

// eachList hands on each list of at most so many of the numbers.
func eachList(numbers []int, most int, do func(l []int)) {
	do(nil)
	eachLonger(nil, numbers, most, do)
}

func eachLonger(l, numbers []int, more int, do func(l []int)) {
	if more == 0 {
		return
	}
	for _, n := range numbers {
		longer := slices.Concat(l, []int{n})
		do(slices.Clone(longer))
		eachLonger(longer, numbers, more-1, do)
	}
}

// beyond are numbers of all kinds, rising, those around the fourth part of an int's ends among them.
func beyond() []int {
	l := []int{math.MinInt, math.MinInt + 1, math.MinInt + 2, math.MinInt + 3, math.MinInt + 4, math.MinInt + 8, math.MinInt + 9}
	for n := math.MinInt/4 - 4; n <= math.MinInt/4+2; n++ {
		l = append(l, n)
	}
	l = append(l, -1<<32, -1<<31, -17)
	for n := -12; n <= 12; n++ {
		l = append(l, n)
	}
	l = append(l, 15, 16, 17, 71, 72, 73, 255, 256, 1<<20, 1<<31-1, 1<<31, 1<<32)
	for n := math.MaxInt/4 - 4; n <= math.MaxInt/4+3; n++ {
		l = append(l, n)
	}
	return append(l, math.MaxInt-9, math.MaxInt-8, math.MaxInt-4, math.MaxInt-3, math.MaxInt-2, math.MaxInt-1, math.MaxInt)
}

// patience is 4 times cars and 8, without bounds.
func patience(cars int) *big.Int {
	n := big.NewInt(int64(cars))
	return n.Mul(n, big.NewInt(4)).Add(n, big.NewInt(8))
}

// isAbove is whether ticks are above the patience of so many cars, without bounds.
func isAbove(ticks, cars int) bool {
	return big.NewInt(int64(ticks)).Cmp(patience(cars)) > 0
}

// Patience

func TestPatience(t *testing.T) {
	for cars, want := range map[int]int{0: 8, 1: 12, 2: 16, 3: 20, 7: 36, 15: 68, 16: 72, 17: 76, 1000: 4008, 1 << 32: 1<<34 + 8, -1: 4, -2: 0, -3: -4, -100: -392, -1 << 32: -1<<34 + 8} {
		if got := found.Patience(cars); got != want {
			t.Errorf("Patience of %d is %d, not %d", cars, got, want)
		}
	}
}

// TestPatienceOfAllKinds holds Patience against the number without bounds, or the end of an int that lies ahead of it.
func TestPatienceOfAllKinds(t *testing.T) {
	for _, cars := range beyond() {
		want := 0
		switch n := patience(cars); {
		case n.IsInt64():
			want = int(n.Int64())
		case n.Sign() < 0:
			want = math.MinInt
		default:
			want = math.MaxInt
		}
		if got := found.Patience(cars); got != want {
			t.Errorf("Patience of %d is %d, not %d", cars, got, want)
		}
	}
}

func TestPatienceAtTheEndsOfAnInt(t *testing.T) {
	for _, x := range []struct{ cars, want int }{
		{1<<61 - 3, math.MaxInt - 3}, {1<<61 - 2, math.MaxInt}, {math.MaxInt, math.MaxInt},
		{-1<<61 - 2, math.MinInt}, {-1<<61 - 1, math.MinInt + 4}, {-1<<61 - 3, math.MinInt}, {math.MinInt, math.MinInt},
	} {
		if got := found.Patience(x.cars); got != x.want {
			t.Errorf("Patience of %d is %d, not %d", x.cars, got, x.want)
		}
	}
}

// Members

// checkMembers holds what Members tells of a car and who is alive, and what is alive then, against what they have to be.
func checkMembers(t *testing.T, car int, alive, want []int) {
	t.Helper()
	part, all := within(alive)
	// Nothing but Car and Alive counts, so the rest is of any kind.
	for _, c := range []found.Case{
		{Car: car, Alive: part},
		{Car: car, Alive: part, Cars: 2, Any: true, Ring: []int{0, 99}, Since: 1000, Found: 1000},
		{Car: car, Alive: part, Cars: -5, Out: true, Ring: []int{3}, Since: -7, Found: math.MinInt},
	} {
		was := clone(c)
		if got := found.Members(c); !slices.Equal(got, want) {
			t.Errorf("Members of %+v is %v, not %v", c, got, want)
		}
		if !reflect.DeepEqual(c, was) {
			t.Errorf("Members of %+v made %+v of it", was, c)
		}
	}
	if _, was := within(alive); !slices.Equal(all, was) {
		t.Errorf("Members of %d and %v: what was handed in became %v", car, alive, all)
	}
}

// clone is c with lists of its own.
func clone(c found.Case) found.Case {
	c.Alive, c.Ring = slices.Clone(c.Alive), slices.Clone(c.Ring)
	return c
}

func TestMembers(t *testing.T) {
	for _, x := range []struct {
		car         int
		alive, want []int
	}{
		// Nobody alive.
		{4, nil, []int{4}}, {0, nil, []int{0}}, {4, []int{}, []int{4}}, {15, []int{}, []int{15}},
		// The car ahead, between and behind.
		{0, []int{3, 5}, []int{0, 3, 5}}, {4, []int{3, 5}, []int{3, 4, 5}}, {9, []int{3, 5}, []int{3, 5, 9}},
		// The car is among them already.
		{4, []int{4}, []int{4}}, {3, []int{3, 5}, []int{3, 5}}, {5, []int{3, 5}, []int{3, 5}}, {4, []int{3, 4, 5}, []int{3, 4, 5}},
		// In no order.
		{4, []int{5, 3}, []int{3, 4, 5}}, {1, []int{9, 0, 7, 2}, []int{0, 1, 2, 7, 9}}, {2, []int{10, 2, 9}, []int{2, 9, 10}},
		// Twice.
		{4, []int{3, 3}, []int{3, 4}}, {4, []int{4, 4, 4}, []int{4}}, {4, []int{5, 3, 5, 4, 3}, []int{3, 4, 5}}, {0, []int{0, 1, 0}, []int{0, 1}},
		// No cars.
		{-1, []int{3, -4}, []int{-4, -1, 3}}, {-1, nil, []int{-1}}, {16, []int{99, 17}, []int{16, 17, 99}},
		{math.MaxInt, []int{0, math.MinInt}, []int{math.MinInt, 0, math.MaxInt}}, {math.MinInt, []int{math.MaxInt, math.MinInt}, []int{math.MinInt, math.MaxInt}},
	} {
		checkMembers(t, x.car, x.alive, x.want)
	}
}

func TestMembersOfAllKinds(t *testing.T) {
	l := beyond()
	reversed := slices.Clone(l)
	slices.Reverse(reversed)
	for i, car := range l {
		others := slices.Delete(slices.Clone(reversed), len(l)-1-i, len(l)-i)
		checkMembers(t, car, others, l)
		checkMembers(t, car, slices.Concat(reversed, l), l)
	}
}

// TestMembersOfEachList holds Members against its words: rising, each once, and of just these.
func TestMembersOfEachList(t *testing.T) {
	numbers := []int{-2, 0, 1, 3, 17}
	eachList(numbers, 4, func(l []int) {
		for car := -3; car <= 4; car++ {
			var want []int
			for n := -3; n <= 17; n++ {
				if n == car || slices.Contains(l, n) {
					want = append(want, n)
				}
			}
			checkMembers(t, car, l, want)
		}
	})
}

// TestMembersIsNewMemory writes into what Members answers, and into what was handed in: nothing else shows it.
func TestMembersIsNewMemory(t *testing.T) {
	eachList([]int{0, 2, 4}, 4, func(l []int) {
		for _, car := range []int{-1, 0, 3, 5} {
			part, all := within(l)
			c := found.Case{Car: car, Alive: part, Ring: part}
			one, other := found.Members(c), found.Members(c)
			want := slices.Clone(other)
			spoil(one)
			if _, was := within(l); !slices.Equal(all, was) {
				t.Errorf("written into the Members of %d and %v: what was handed in became %v", car, l, all)
			}
			if !slices.Equal(other, want) || !slices.Equal(found.Members(c), want) {
				t.Errorf("written into the Members of %d and %v: others show it: %v, %v", car, l, other, found.Members(c))
			}
			spoil(all)
			if !slices.Equal(other, want) {
				t.Errorf("written into %v: its Members with %d became %v", l, car, other)
			}
		}
	})
}

// Should

// checkShould holds what Should tells of c, and what c is then, against what they have to be.
func checkShould(t *testing.T, c found.Case, want bool) {
	t.Helper()
	was := clone(c)
	var allAlive, allRing []int
	c.Alive, allAlive = within(c.Alive)
	c.Ring, allRing = within(c.Ring)
	if got := found.Should(c); got != want {
		t.Errorf("Should of %+v is %v", was, got)
	}
	if _, alive := within(was.Alive); !slices.Equal(allAlive, alive) {
		t.Errorf("Should of %+v: Alive became %v", was, allAlive)
	}
	if _, ring := within(was.Ring); !slices.Equal(allRing, ring) {
		t.Errorf("Should of %+v: Ring became %v", was, allRing)
	}
}

// inRing is a car, the least of its ring, that is in an epoch, has had its token lately, and may found one: it should not.
func inRing() found.Case {
	return found.Case{Car: 2, Cars: 4, Any: true, Alive: []int{5, 7}, Ring: []int{2, 5, 7}, Since: 24, Found: 25}
}

// reasons are the cases in which the car should found a ring, each by one reason alone, and by all of them.
func reasons() []found.Case {
	none, ring, since, all := inRing(), inRing(), inRing(), inRing()
	none.Any = false
	ring.Ring = []int{2, 5}
	since.Since = 25
	all.Any, all.Ring, all.Since = false, nil, 1000
	return []found.Case{none, ring, since, all}
}

func TestShouldWithoutReason(t *testing.T) {
	checkShould(t, inRing(), false)
}

func TestShouldWithReason(t *testing.T) {
	for _, c := range reasons() {
		checkShould(t, c, true)
	}
}

// TestExample is the chapter's: Out: never.
func TestExample(t *testing.T) {
	for _, c := range append(reasons(), inRing()) {
		c.Out = true
		checkShould(t, c, false)
		c.Found, c.Since = math.MaxInt, math.MaxInt
		checkShould(t, c, false)
		c.Alive = nil
		checkShould(t, c, false)
	}
}

func TestShouldOfTheLeast(t *testing.T) {
	for _, c := range reasons() {
		for _, x := range []struct {
			alive []int
			want  bool
		}{
			{nil, true}, {[]int{}, true}, {[]int{2}, true}, {[]int{2, 2}, true}, {[]int{5, 7}, true}, {[]int{7, 5}, true}, {[]int{3}, true}, {[]int{7, 2, 5}, true}, {[]int{99}, true}, {[]int{math.MaxInt, 5}, true},
			{[]int{1}, false}, {[]int{0}, false}, {[]int{1, 5}, false}, {[]int{7, 5, 1}, false}, {[]int{2, 1}, false}, {[]int{-1}, false}, {[]int{5, -1, 7}, false}, {[]int{math.MinInt, 2}, false},
		} {
			c.Alive, c.Ring = x.alive, []int{77}
			checkShould(t, c, x.want)
		}
	}
}

func TestShouldOfFound(t *testing.T) {
	for _, c := range reasons() {
		for _, x := range []struct {
			found int
			want  bool
		}{{24, false}, {25, true}, {23, false}, {26, true}, {0, false}, {1, false}, {-1, false}, {-25, false}, {1000, true}, {math.MinInt, false}, {math.MaxInt, true}} {
			c.Found = x.found
			checkShould(t, c, x.want)
		}
	}
}

func TestShouldOfAny(t *testing.T) {
	// What the ring was, and when it had a token, are out of question, if it is in no epoch.
	for _, ring := range [][]int{nil, {2, 5, 7}, {2}, {7, 5, 2}} {
		for _, since := range []int{math.MinInt, -1, 0, 24, 25, math.MaxInt} {
			c := inRing()
			c.Any, c.Ring, c.Since = false, ring, since
			checkShould(t, c, true)
			c.Found = 24
			checkShould(t, c, false)
		}
	}
}

func TestShouldOfTheRing(t *testing.T) {
	for _, x := range []struct {
		alive, ring []int
		want        bool
	}{
		// The members, in order, however those that are alive stand.
		{[]int{5, 7}, []int{2, 5, 7}, false}, {[]int{7, 5}, []int{2, 5, 7}, false}, {[]int{5, 7, 5, 2}, []int{2, 5, 7}, false}, {nil, []int{2}, false}, {[]int{2}, []int{2}, false},
		// In another order.
		{[]int{5, 7}, []int{7, 5, 2}, true}, {[]int{5, 7}, []int{5, 2, 7}, true}, {[]int{5, 7}, []int{5, 7, 2}, true}, {[]int{5, 7}, []int{2, 7, 5}, true},
		// One fewer.
		{[]int{5, 7}, []int{2, 5}, true}, {[]int{5, 7}, []int{2, 7}, true}, {[]int{5, 7}, []int{5, 7}, true}, {nil, nil, true}, {nil, []int{}, true}, {[]int{5, 7}, nil, true},
		// One more.
		{[]int{5, 7}, []int{2, 5, 7, 9}, true}, {[]int{5, 7}, []int{2, 5, 6, 7}, true}, {[]int{5, 7}, []int{1, 2, 5, 7}, true}, {nil, []int{2, 5}, true},
		// One twice.
		{[]int{5, 7}, []int{2, 5, 5, 7}, true}, {[]int{5, 7}, []int{2, 5, 7, 7}, true}, {nil, []int{2, 2}, true}, {[]int{5, 5, 7}, []int{2, 5, 5, 7}, true}, {[]int{2}, []int{2, 2}, true},
		// Another one instead, and numbers that are no car's.
		{[]int{5, 7}, []int{2, 5, 8}, true}, {[]int{5, 99}, []int{2, 5, 99}, false}, {[]int{5, math.MaxInt}, []int{2, 5, math.MaxInt}, false}, {[]int{5, 7}, []int{2, 5, -7}, true},
	} {
		c := inRing()
		c.Alive, c.Ring = x.alive, x.ring
		checkShould(t, c, x.want)
		c.Since = 25
		checkShould(t, c, true)
	}
}

func TestShouldOfSince(t *testing.T) {
	for _, x := range []struct {
		since int
		want  bool
	}{{24, false}, {25, true}, {23, false}, {26, true}, {0, false}, {-1, false}, {-25, false}, {1000, true}, {math.MinInt, false}, {math.MaxInt, true}} {
		c := inRing()
		c.Since = x.since
		checkShould(t, c, x.want)
	}
}

// TestShouldOfCars has both counts at the Patience of each house, and one above.
func TestShouldOfCars(t *testing.T) {
	for cars := -20; cars <= 40; cars++ {
		p := 4*cars + 8
		for _, since := range []int{p - 1, p, p + 1, p + 2, p + 3, p + 4} {
			for _, ago := range []int{p - 1, p, p + 1, p + 2, p + 3, p + 4} {
				c := inRing()
				c.Cars, c.Since, c.Found = cars, since, ago
				checkShould(t, c, since > p && ago > p)
				c.Any = false
				checkShould(t, c, ago > p)
			}
		}
	}
}

// TestShouldOfAllKinds has each count with each number of cars, to the ends of an int: they are held against each other without bounds.
func TestShouldOfAllKinds(t *testing.T) {
	for _, cars := range beyond() {
		for _, ticks := range beyond() {
			c := inRing()
			c.Cars, c.Any, c.Found = cars, false, ticks
			checkShould(t, c, isAbove(ticks, cars))
			c.Any, c.Since = true, ticks
			checkShould(t, c, isAbove(ticks, cars))
			c.Found = math.MaxInt
			checkShould(t, c, isAbove(ticks, cars) && isAbove(math.MaxInt, cars))
			c.Found, c.Ring = ticks, nil
			checkShould(t, c, isAbove(ticks, cars))
		}
	}
}

// TestShouldOfEachCar has a car of each number, with others alive below it, or above it.
func TestShouldOfEachCar(t *testing.T) {
	l := beyond()
	for i, car := range l {
		c := inRing()
		c.Car, c.Alive, c.Any = car, l[i:], false
		checkShould(t, c, true)
		c.Alive = l
		checkShould(t, c, i == 0)
		c.Alive, c.Any, c.Ring = l[i:], true, l[i:]
		checkShould(t, c, false)
		c.Ring = l
		checkShould(t, c, i > 0)
	}
}

// tell is what the chapter says of Should, condition by condition.
func tell(c found.Case) bool {
	var members []int
	for n := -1; n <= 4; n++ {
		if n == c.Car || slices.Contains(c.Alive, n) {
			members = append(members, n)
		}
	}
	p := 4*c.Cars + 8
	least := members[0] == c.Car
	reason := !c.Any || !slices.Equal(c.Ring, members) || c.Since > p
	return !c.Out && least && c.Found > p && reason
}

// TestShouldOfEachCase holds Should against its words, in small cases of every kind.
func TestShouldOfEachCase(t *testing.T) {
	numbers := []int{-1, 0, 1, 3}
	eachList(numbers, 3, func(alive []int) {
		eachList(numbers, 3, func(ring []int) {
			for car := range 3 {
				for bits := range 16 {
					c := found.Case{Car: car, Cars: 1, Alive: alive, Ring: ring, Out: bits&1 != 0, Any: bits&2 != 0, Since: 12 + bits>>2&1, Found: 12 + bits>>3}
					if got := found.Should(c); got != tell(c) {
						t.Fatalf("Should of %+v is %v", c, got)
					}
				}
			}
		})
	})
}

func TestShouldOfZero(t *testing.T) {
	// Of 0 cars the Patience is 8, and the car 0 is its own least.
	checkShould(t, found.Case{}, false)
	checkShould(t, found.Case{Found: 8}, false)
	checkShould(t, found.Case{Found: 9}, true)
	checkShould(t, found.Case{Found: 9, Any: true}, true)
	checkShould(t, found.Case{Found: 9, Any: true, Ring: []int{0}}, false)
	checkShould(t, found.Case{Found: 9, Any: true, Ring: []int{0}, Since: 9}, true)
}

// All of them

// TestOfMany has lists that are long: each call ends.
func TestOfMany(t *testing.T) {
	const many = 1 << 16
	alive, want := make([]int, 0, 2*many), make([]int, many)
	for i := range many {
		// 40503 is odd, and many a power of 2, so that each number below many comes, twice.
		alive = append(alive, i*40503%many, i)
		want[i] = i
	}
	checkMembers(t, 0, alive, want)
	checkMembers(t, many-1, alive, want)
	c := found.Case{Car: 0, Cars: 16, Any: true, Alive: alive, Ring: want, Since: 72, Found: 73}
	checkShould(t, c, false)
	c.Ring = want[:many-1]
	checkShould(t, c, true)
}

// TestNothingIsKept has each call asked again, behind others.
func TestNothingIsKept(t *testing.T) {
	for range 3 {
		for _, c := range reasons() {
			checkShould(t, c, true)
			checkShould(t, inRing(), false)
		}
		checkMembers(t, 4, []int{5, 3}, []int{3, 4, 5})
		checkMembers(t, 0, nil, []int{0})
		if got := found.Patience(16); got != 72 {
			t.Errorf("Patience of 16 is %d", got)
		}
	}
}
