package bid_test

import (
	"math"
	"slices"
	"testing"

	"paternoster/api"
	"paternoster/bid"
)

// P18.1

// of is a bid of a car, of so many ticks.
func of(car, ticks int) api.Bid {
	return api.Bid{Car: car, Ticks: ticks}
}

// canary stands ahead of and behind what is handed in, where nobody may read or write; it is less than what is handed in mostly is, so that it is told where it is read.
func canary() api.Bid {
	return of(math.MinInt+7, math.MinInt)
}

// within is l with canaries ahead of it and behind it in its memory, all of it told by the second answer.
func within(l []api.Bid) (part, all []api.Bid) {
	c := canary()
	all = slices.Concat([]api.Bid{c, c}, l, []api.Bid{c, c, c})
	return all[2 : 2+len(l)], all
}

// checkKept holds all of the memory that within made against what it was.
func checkKept(t *testing.T, what string, l, all []api.Bid) {
	t.Helper()
	if _, was := within(l); !slices.Equal(all, was) {
		t.Errorf("%s of %v: what was handed in became %v", what, l, all)
	}
}

// withinNumbers is l as within has bids: the canaries are the Car of a canary.
func withinNumbers(l []int) (part, all []int) {
	c := canary().Car
	all = slices.Concat([]int{c, c}, l, []int{c, c, c})
	return all[2 : 2+len(l)], all
}

// eachList hands on each list of at most so many of the things.
func eachList[T any](things []T, most int, do func(l []T)) {
	do(nil)
	eachLonger(nil, things, most, do)
}

func eachLonger[T any](l, things []T, more int, do func(l []T)) {
	if more == 0 {
		return
	}
	for _, x := range things {
		longer := slices.Concat(l, []T{x})
		do(slices.Clone(longer))
		eachLonger(longer, things, more-1, do)
	}
}

// beyond are numbers of all kinds, rising.
func beyond() []int {
	return []int{
		math.MinInt, math.MinInt + 1, -1 << 32, -1 << 31, -17, -2, -1, 0, 1, 2, 9, 10, 15, 16, 17,
		255, 256, 1 << 20, 1<<31 - 1, 1 << 31, 1 << 32, math.MaxInt - 1, math.MaxInt,
	}
}

// rising are bids of all kinds of Ticks and Cars, each less than the one behind it.
func rising() []api.Bid {
	var l []api.Bid
	for _, ticks := range beyond() {
		for _, car := range beyond() {
			l = append(l, of(car, ticks))
		}
	}
	return l
}

// reversed is l from behind.
func reversed(l []api.Bid) []api.Bid {
	r := slices.Clone(l)
	slices.Reverse(r)
	return r
}

// few are bids of which lists are made: several of one Car, and several of as many Ticks.
func few() []api.Bid {
	return []api.Bid{of(0, 0), of(1, 0), of(0, 1), of(3, -1), of(-1, 3), of(3, 2)}
}

// Less

// checkLess holds Less of a and b, and of b and a, against what they have to be.
func checkLess(t *testing.T, a, b api.Bid, less, more bool) {
	t.Helper()
	if got := bid.Less(a, b); got != less {
		t.Errorf("Less of %v and %v is %v", a, b, got)
	}
	if got := bid.Less(b, a); got != more {
		t.Errorf("Less of %v and %v is %v", b, a, got)
	}
}

func TestLess(t *testing.T) {
	for _, x := range []struct{ less, more api.Bid }{
		// Fewer Ticks, whatever the Cars are.
		{of(1, 5), of(1, 6)}, {of(1, 5), of(2, 6)}, {of(2, 5), of(1, 6)}, {of(15, 0), of(0, 1)}, {of(0, 1<<20-1), of(0, 1<<20)}, {of(9, 2), of(2, 9)},
		// As many Ticks, and another Car.
		{of(1, 5), of(2, 5)}, {of(0, 0), of(1, 0)}, {of(9, 7), of(10, 7)}, {of(0, 1<<20), of(15, 1<<20)}, {of(2, 2), of(3, 2)},
		// Numbers below 0.
		{of(0, -1), of(0, 0)}, {of(0, -2), of(0, -1)}, {of(5, -3), of(-5, 3)}, {of(-1, 5), of(0, 5)}, {of(-2, 5), of(-1, 5)}, {of(-1, -1), of(1, -1)},
		// As far out as an int goes.
		{of(0, math.MinInt), of(0, math.MaxInt)}, {of(0, math.MinInt), of(0, 1)}, {of(0, -2), of(0, math.MaxInt)}, {of(math.MaxInt, math.MinInt), of(math.MinInt, math.MaxInt)},
		{of(math.MinInt, 5), of(math.MaxInt, 5)}, {of(math.MinInt, 5), of(1, 5)}, {of(-2, 5), of(math.MaxInt, 5)}, {of(math.MaxInt, 4), of(math.MinInt, 5)},
		{of(0, 7), of(0, 1<<32)}, {of(7, 0), of(1<<32, 0)}, {of(1, 1), of(0, 1<<32+1)},
	} {
		checkLess(t, x.less, x.more, true, false)
	}
}

func TestLessOfTheSame(t *testing.T) {
	for _, b := range rising() {
		checkLess(t, b, b, false, false)
	}
}

func TestLessOfEachTwo(t *testing.T) {
	l := rising()
	for i, a := range l {
		for _, b := range l[i+1:] {
			checkLess(t, a, b, true, false)
		}
	}
}

// Least

// checkLeast holds what Least tells of l, and what l is then, against what they have to be.
func checkLeast(t *testing.T, l []api.Bid, want api.Bid, is bool) {
	t.Helper()
	part, all := within(l)
	if got, has := bid.Least(part...); got != want || has != is {
		t.Errorf("Least of %v is %v, %v, not %v, %v", l, got, has, want, is)
	}
	checkKept(t, "Least", l, all)
}

// TestExample is the chapter's.
func TestExample(t *testing.T) {
	checkLeast(t, []api.Bid{of(2, 5), of(1, 5)}, of(1, 5), true)
}

func TestLeastOfNone(t *testing.T) {
	checkLeast(t, nil, api.Bid{}, false)
	checkLeast(t, []api.Bid{}, api.Bid{}, false)
	if b, is := bid.Least(); b != (api.Bid{}) || is {
		t.Errorf("Least() is %v, %v", b, is)
	}
	var none []api.Bid
	if b, is := bid.Least(none...); b != (api.Bid{}) || is {
		t.Errorf("Least of nil is %v, %v", b, is)
	}
}

func TestLeastOfOne(t *testing.T) {
	for _, b := range rising() {
		checkLeast(t, []api.Bid{b}, b, true)
		if got, is := bid.Least(b); got != b || !is {
			t.Errorf("Least(%v) is %v, %v", b, got, is)
		}
	}
}

func TestLeastOneByOne(t *testing.T) {
	for _, x := range []struct{ a, b, c api.Bid }{
		{of(1, 5), of(2, 5), of(0, 6)}, {of(0, 6), of(1, 5), of(2, 5)}, {of(2, 5), of(0, 6), of(1, 5)},
		{of(1, 5), of(1, 5), of(0, 6)}, {of(1, 5), of(1, 5), of(1, 5)},
	} {
		if got, is := bid.Least(x.a, x.b, x.c); got != of(1, 5) || !is {
			t.Errorf("Least(%v, %v, %v) is %v, %v", x.a, x.b, x.c, got, is)
		}
	}
	if got, is := bid.Least(of(4, 9), of(3, 9)); got != of(3, 9) || !is {
		t.Errorf("Least one by one is %v, %v", got, is)
	}
}

func TestLeastAtEachPlace(t *testing.T) {
	others := []api.Bid{of(2, 5), of(0, 7), of(2, 9), of(3, 5), of(1, 6)}
	for _, least := range []api.Bid{of(1, 5), of(2, 4), of(9, -1), of(math.MaxInt, math.MinInt), of(math.MinInt, 5), of(-1, 5)} {
		for i := range len(others) + 1 {
			checkLeast(t, slices.Insert(slices.Clone(others), i, least), least, true)
		}
	}
}

func TestLeastOfSeveralAsGood(t *testing.T) {
	checkLeast(t, []api.Bid{of(1, 5), of(1, 5)}, of(1, 5), true)
	checkLeast(t, []api.Bid{of(3, 5), of(1, 5), of(2, 5), of(1, 5)}, of(1, 5), true)
	checkLeast(t, []api.Bid{of(3, 5), of(2, 5), of(4, 5)}, of(2, 5), true)
	checkLeast(t, []api.Bid{of(0, 0), of(0, 0), of(0, 0)}, of(0, 0), true)
	checkLeast(t, []api.Bid{of(0, 1), of(0, 0)}, of(0, 0), true)
}

func TestLeastOfAllKinds(t *testing.T) {
	l := rising()
	for i := range l {
		checkLeast(t, l[i:], l[i], true)
		checkLeast(t, reversed(l[i:]), l[i], true)
	}
}

// TestLeastOfEachList holds Least against its words: one of the list, with none less.
func TestLeastOfEachList(t *testing.T) {
	eachList(few(), 5, func(l []api.Bid) {
		if len(l) == 0 {
			return
		}
		part, all := within(l)
		got, is := bid.Least(part...)
		if !is || !slices.Contains(l, got) {
			t.Fatalf("Least of %v is %v, %v", l, got, is)
		}
		for _, b := range l {
			if b.Ticks < got.Ticks || b.Ticks == got.Ticks && b.Car < got.Car {
				t.Fatalf("Least of %v is %v", l, got)
			}
		}
		checkKept(t, "Least", l, all)
	})
}

// Put

// checkPut holds what Put tells of l and b, and what l is then, against what they have to be.
func checkPut(t *testing.T, l []api.Bid, b api.Bid, want []api.Bid, is bool) {
	t.Helper()
	part, all := within(l)
	if got, was := bid.Put(part, b); !slices.Equal(got, want) || was != is {
		t.Errorf("Put of %v and %v is %v, %v, not %v, %v", l, b, got, was, want, is)
	}
	checkKept(t, "Put", l, all)
}

func TestPutIntoNone(t *testing.T) {
	for _, b := range rising() {
		checkPut(t, nil, b, []api.Bid{b}, true)
		checkPut(t, []api.Bid{}, b, []api.Bid{b}, true)
		if got, is := bid.Put(nil, b); !slices.Equal(got, []api.Bid{b}) || !is {
			t.Errorf("Put of nil and %v is %v, %v", b, got, is)
		}
		if got, is := bid.Put([]api.Bid{}, b); !slices.Equal(got, []api.Bid{b}) || !is {
			t.Errorf("Put of none and %v is %v, %v", b, got, is)
		}
	}
}

func TestPutAtEachPlace(t *testing.T) {
	l := []api.Bid{of(1, 7), of(4, 2), of(6, 7)}
	for _, x := range []struct{ car, place int }{
		{0, 0}, {-1, 0}, {-4, 0}, {math.MinInt, 0},
		{2, 1}, {3, 1}, {5, 2},
		{7, 3}, {15, 3}, {1 << 32, 3}, {1<<32 + 1, 3}, {math.MaxInt, 3},
	} {
		// Whatever its Ticks are: it stands by its Car.
		for _, ticks := range []int{math.MinInt, -1, 0, 2, 5, 7, 8, math.MaxInt} {
			b := of(x.car, ticks)
			checkPut(t, l, b, slices.Concat(l[:x.place], []api.Bid{b}, l[x.place:]), true)
		}
	}
}

func TestPutOfOneThatHasBid(t *testing.T) {
	for _, l := range [][]api.Bid{
		{of(4, 2)},
		{of(4, 2), of(6, 7)},
		{of(1, 7), of(4, 2)},
		{of(1, 7), of(4, 2), of(6, 7)},
		{of(6, 7), of(4, 2), of(1, 7)}, // behind a greater one
		{of(6, 7), of(1, 7), of(4, 2)},
		{of(4, 2), of(4, 3), of(5, 0)}, // twice
		{of(9, 9), of(8, 8), of(7, 7), of(4, 4)},
	} {
		for _, ticks := range []int{math.MinInt, -1, 0, 1, 2, 3, 7, math.MaxInt} {
			checkPut(t, l, of(4, ticks), l, false)
		}
	}
}

func TestPutOutOfOrder(t *testing.T) {
	l := []api.Bid{of(6, 1), of(1, 2), of(9, 3), of(4, 4)}
	for _, x := range []struct{ car, place int }{{0, 0}, {2, 0}, {5, 0}, {7, 2}, {8, 2}, {10, 4}, {-3, 0}, {math.MaxInt, 4}, {math.MinInt, 0}} {
		b := of(x.car, 5)
		checkPut(t, l, b, slices.Concat(l[:x.place], []api.Bid{b}, l[x.place:]), true)
	}
	falling := []api.Bid{of(9, 0), of(5, 0), of(2, 0)}
	checkPut(t, falling, of(1, 0), slices.Concat([]api.Bid{of(1, 0)}, falling), true)
	checkPut(t, falling, of(3, 0), slices.Concat([]api.Bid{of(3, 0)}, falling), true)
	checkPut(t, falling, of(10, 0), slices.Concat(falling, []api.Bid{of(10, 0)}), true)
	twice := []api.Bid{of(2, 0), of(2, 9), of(5, 1), of(5, 1)}
	checkPut(t, twice, of(3, 0), []api.Bid{of(2, 0), of(2, 9), of(3, 0), of(5, 1), of(5, 1)}, true)
}

func TestPutOfAllKinds(t *testing.T) {
	cars := beyond()
	var l []api.Bid
	for i, car := range cars {
		l = append(l, of(car, cars[len(cars)-1-i]))
	}
	for i, b := range l {
		checkPut(t, slices.Delete(slices.Clone(l), i, i+1), b, l, true)
		checkPut(t, l, b, l, false)
		checkPut(t, l, of(b.Car, 77), l, false)
	}
}

// TestPutOfEachList holds Put against its words.
func TestPutOfEachList(t *testing.T) {
	eachList(few(), 4, func(l []api.Bid) {
		for car := -2; car <= 4; car++ {
			b := of(car, 1)
			if slices.ContainsFunc(l, func(x api.Bid) bool { return x.Car == car }) {
				checkPut(t, l, b, l, false)
				continue
			}
			var want []api.Bid
			put := false
			for _, x := range l {
				if x.Car > car && !put {
					want, put = append(want, b), true
				}
				want = append(want, x)
			}
			if !put {
				want = append(want, b)
			}
			checkPut(t, l, b, want, true)
		}
	})
}

// TestPutOneAfterTheOther has the bids of some cars put in each order: they stand by Cars at last.
func TestPutOneAfterTheOther(t *testing.T) {
	want := []api.Bid{of(-1, 4), of(0, 3), of(2, 2), of(3, 1), of(15, 0)}
	eachList(want, len(want), func(l []api.Bid) {
		var have []api.Bid
		for i, b := range l {
			next, is := bid.Put(have, b)
			if is == slices.Contains(l[:i], b) {
				t.Fatalf("Put of %v and %v is %v, %v", have, b, next, is)
			}
			have = next
		}
		var left []api.Bid
		for _, b := range want {
			if slices.Contains(l, b) {
				left = append(left, b)
			}
		}
		if !slices.Equal(have, left) {
			t.Fatalf("Put of each of %v is %v", l, have)
		}
	})
}

// spoil writes into l, behind its length too, and appends to it.
func spoil(l []api.Bid) {
	_ = append(l, of(-66, -66))
	l = l[:cap(l)]
	for i := range l {
		l[i] = of(-77, -77)
	}
}

// TestPutIsNewMemory writes into what Put answers, true and false: nothing else shows it.
func TestPutIsNewMemory(t *testing.T) {
	eachList(few(), 4, func(l []api.Bid) {
		for _, car := range []int{-2, 0, 2, 3, 4} {
			part, all := within(l)
			one, _ := bid.Put(part, of(car, 1))
			other, is := bid.Put(part, of(car, 1))
			want := slices.Clone(other)
			spoil(one)
			checkKept(t, "written into a Put", l, all)
			if !slices.Equal(other, want) {
				t.Errorf("Put of %v and %d: another answer shows what was written: %v", l, car, other)
			}
			checkPut(t, l, of(car, 1), want, is)
		}
	})
}

// TestPutIntoAnAnswer has two bids put into one answer, which has spare room or not.
func TestPutIntoAnAnswer(t *testing.T) {
	var have, want []api.Bid
	for car := range 40 {
		one, _ := bid.Put(have, of(car, 1))
		other, _ := bid.Put(have, of(car, 2))
		same, _ := bid.Put(one, of(car, 3))
		spoil(other)
		if !slices.Equal(have, want) {
			t.Fatalf("what was handed in became %v, not %v", have, want)
		}
		want = append(want, of(car, 1))
		if !slices.Equal(one, want) || !slices.Equal(same, want) {
			t.Fatalf("other answers are %v and %v, not %v", one, same, want)
		}
		spoil(one)
		have = same
	}
}

func TestPutKeepsNothing(t *testing.T) {
	for _, l := range [][]api.Bid{{of(1, 1)}, {of(1, 1), of(2, 2), of(4, 4)}, {of(4, 4), of(2, 2), of(1, 1)}} {
		for _, car := range []int{0, 1, 2, 3, 4, 5} {
			part, _ := within(l)
			got, _ := bid.Put(part, of(car, 7))
			want := slices.Clone(got)
			spoil(part)
			if !slices.Equal(got, want) {
				t.Errorf("Put of %v and %d became %v, as what was handed in was written into", l, car, got)
			}
		}
	}
}

// Full

// checkFull holds what Full tells, and what was handed in is then, against what they have to be.
func checkFull(t *testing.T, members []int, l []api.Bid, want bool) {
	t.Helper()
	numbers, allNumbers := withinNumbers(members)
	part, all := within(l)
	if got := bid.Full(numbers, part); got != want {
		t.Errorf("Full of %v and %v is %v", members, l, got)
	}
	if _, was := withinNumbers(members); !slices.Equal(allNumbers, was) {
		t.Errorf("Full of %v and %v: the members became %v", members, l, allNumbers)
	}
	checkKept(t, "Full", l, all)
}

func TestFullOfNoMembers(t *testing.T) {
	for _, l := range [][]api.Bid{nil, {}, {of(0, 0)}, {of(1, 5), of(2, 5)}, few(), rising()} {
		checkFull(t, nil, l, true)
		checkFull(t, []int{}, l, true)
	}
	if !bid.Full(nil, nil) || !bid.Full([]int{}, []api.Bid{}) || !bid.Full(nil, []api.Bid{}) || !bid.Full([]int{}, nil) {
		t.Error("none of none is not Full")
	}
}

func TestFullOfNoBids(t *testing.T) {
	for _, members := range [][]int{{0}, {1}, {-1}, {0, 0}, {1, 4, 6}, beyond()} {
		checkFull(t, members, nil, false)
		checkFull(t, members, []api.Bid{}, false)
	}
	if bid.Full([]int{0}, nil) || bid.Full([]int{0}, []api.Bid{}) {
		t.Error("a member of whom there is no bid, of none, is Full")
	}
}

func TestFull(t *testing.T) {
	l := []api.Bid{of(1, 9), of(4, 2), of(6, 2)}
	for _, x := range []struct {
		members []int
		want    bool
	}{
		// All have bid, in whatever order.
		{[]int{1, 4, 6}, true}, {[]int{6, 4, 1}, true}, {[]int{4, 6, 1}, true},
		// Some bid, who are no members.
		{[]int{1, 4}, true}, {[]int{1, 6}, true}, {[]int{4, 6}, true}, {[]int{6}, true}, {[]int{1}, true},
		// A member twice.
		{[]int{1, 4, 4, 6}, true}, {[]int{4, 4}, true}, {[]int{6, 1, 6, 4, 1}, true}, {[]int{4, 4, 5}, false}, {[]int{5, 5}, false},
		// All but one.
		{[]int{0, 1, 4, 6}, false}, {[]int{1, 2, 4, 6}, false}, {[]int{1, 4, 5, 6}, false}, {[]int{1, 4, 6, 7}, false}, {[]int{7, 6, 4, 1}, false},
		// Nobody, though as many bid; a number of Ticks is no Car.
		{[]int{0, 2, 3}, false}, {[]int{9}, false}, {[]int{2}, false}, {[]int{0}, false},
		// Numbers below 0, and far out.
		{[]int{-1}, false}, {[]int{1, -4}, false}, {[]int{1<<32 + 1}, false}, {[]int{1, 4, 6, math.MaxInt}, false}, {[]int{math.MinInt, 1, 4, 6}, false},
	} {
		checkFull(t, x.members, l, x.want)
		checkFull(t, x.members, reversed(l), x.want)
		checkFull(t, x.members, slices.Concat(l, l), x.want)
	}
	// What stands behind the length is not read.
	checkFull(t, []int{canary().Car}, l, false)
}

func TestFullOfBidsThatAreZeros(t *testing.T) {
	checkFull(t, []int{0}, []api.Bid{{}}, true)
	checkFull(t, []int{0, 0}, []api.Bid{{}}, true)
	checkFull(t, []int{0, 1}, []api.Bid{{}, {}}, false)
	checkFull(t, []int{0}, []api.Bid{of(1, 0)}, false)
}

func TestFullOfAllKinds(t *testing.T) {
	var l []api.Bid
	for _, car := range beyond() {
		l = append(l, of(car, -car))
	}
	checkFull(t, beyond(), l, true)
	checkFull(t, beyond(), reversed(l), true)
	for i, car := range beyond() {
		less := slices.Delete(slices.Clone(l), i, i+1)
		checkFull(t, beyond(), less, false)
		checkFull(t, []int{car}, less, false)
		checkFull(t, slices.Delete(beyond(), i, i+1), less, true)
		checkFull(t, slices.Delete(beyond(), i, i+1), l, true)
	}
}

// TestFullOfEachTwo holds Full against its words.
func TestFullOfEachTwo(t *testing.T) {
	eachList(few(), 3, func(l []api.Bid) {
		eachList([]int{-1, 0, 1, 2, 3}, 3, func(members []int) {
			want := true
			for _, m := range members {
				has := false
				for _, b := range l {
					has = has || b.Car == m
				}
				want = want && has
			}
			checkFull(t, members, l, want)
		})
	})
}

// Of

// checkOf holds what Of tells of l and car, and what l is then, against what they have to be.
func checkOf(t *testing.T, l []api.Bid, car int, want api.Bid, is bool) {
	t.Helper()
	part, all := within(l)
	if got, has := bid.Of(part, car); got != want || has != is {
		t.Errorf("Of %v and %d is %v, %v, not %v, %v", l, car, got, has, want, is)
	}
	checkKept(t, "Of", l, all)
}

func TestOf(t *testing.T) {
	l := []api.Bid{of(1, 9), of(4, 2), of(6, 3)}
	for _, x := range [][]api.Bid{l, reversed(l)} {
		checkOf(t, x, 1, of(1, 9), true)
		checkOf(t, x, 4, of(4, 2), true)
		checkOf(t, x, 6, of(6, 3), true)
		for _, car := range []int{math.MinInt, -4, -1, 0, 2, 3, 5, 7, 9, 15, 1<<32 + 1, math.MaxInt, canary().Car} {
			checkOf(t, x, car, api.Bid{}, false)
		}
	}
}

func TestOfTheFirst(t *testing.T) {
	checkOf(t, []api.Bid{of(3, 1), of(3, 2)}, 3, of(3, 1), true)
	checkOf(t, []api.Bid{of(3, 2), of(3, 1)}, 3, of(3, 2), true)
	checkOf(t, []api.Bid{of(5, 0), of(3, 8), of(1, 0), of(3, 2), of(3, 9)}, 3, of(3, 8), true)
	checkOf(t, []api.Bid{of(3, 0), of(3, 5)}, 3, of(3, 0), true)
}

func TestOfNone(t *testing.T) {
	for _, car := range beyond() {
		checkOf(t, nil, car, api.Bid{}, false)
		checkOf(t, []api.Bid{}, car, api.Bid{}, false)
		if b, is := bid.Of(nil, car); b != (api.Bid{}) || is {
			t.Errorf("Of nil and %d is %v, %v", car, b, is)
		}
	}
}

// TestOfZeros has a bid that is as none is, but for the true.
func TestOfZeros(t *testing.T) {
	checkOf(t, []api.Bid{{}}, 0, api.Bid{}, true)
	checkOf(t, []api.Bid{of(1, 7), {}}, 0, api.Bid{}, true)
	checkOf(t, []api.Bid{of(1, 0)}, 0, api.Bid{}, false)
}

func TestOfAllKinds(t *testing.T) {
	l := rising()
	for _, car := range beyond() {
		checkOf(t, l, car, of(car, math.MinInt), true)
		checkOf(t, reversed(l), car, of(car, math.MaxInt), true)
		without := slices.DeleteFunc(slices.Clone(l), func(b api.Bid) bool { return b.Car == car })
		checkOf(t, without, car, api.Bid{}, false)
	}
}

// TestOfEachList holds Of against its words.
func TestOfEachList(t *testing.T) {
	eachList(few(), 5, func(l []api.Bid) {
		for car := -2; car <= 4; car++ {
			want, is := api.Bid{}, false
			for i := len(l) - 1; i >= 0; i-- {
				if l[i].Car == car {
					want, is = l[i], true
				}
			}
			checkOf(t, l, car, want, is)
		}
	})
}

// All of them

// TestOfMany has lists that are long: each call ends.
func TestOfMany(t *testing.T) {
	const many = 1 << 16
	var members []int
	var l []api.Bid
	for i := range many {
		// 40503 is odd, and many a power of 2, so that each number below many comes, once.
		car := i * 40503 % many
		members = append(members, i)
		l = append(l, of(car, many-car))
	}
	checkFull(t, members, l, true)
	checkFull(t, append(members, many), l, false)
	checkLeast(t, l, of(many-1, 1), true)
	checkOf(t, l, many-1, of(many-1, 1), true)
	checkPut(t, l, of(many, 0), slices.Concat(l, []api.Bid{of(many, 0)}), true)
	checkPut(t, l, of(many-1, 0), l, false)
}

// TestNothingIsKept has each call asked again, behind others.
func TestNothingIsKept(t *testing.T) {
	l := []api.Bid{of(1, 5), of(4, 2)}
	for range 3 {
		checkLess(t, of(2, 5), of(1, 5), false, true)
		checkLeast(t, l, of(4, 2), true)
		checkLeast(t, nil, api.Bid{}, false)
		checkPut(t, l, of(3, 0), []api.Bid{of(1, 5), of(3, 0), of(4, 2)}, true)
		checkPut(t, l, of(4, 0), l, false)
		checkFull(t, []int{1, 3, 4}, l, false)
		checkFull(t, []int{1, 4}, l, true)
		checkOf(t, l, 3, api.Bid{}, false)
		checkOf(t, l, 4, of(4, 2), true)
	}
}
