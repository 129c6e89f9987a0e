package order_test

import (
	"math"
	"slices"
	"testing"

	"paternoster/order"
)

// P8.1

// canary stands behind the length of what is handed in, where nobody may read or write.
const canary = math.MinInt + 7

// within is l with canaries ahead of it and behind it in its memory, all of it told by the second answer.
func within(l []int) (part, all []int) {
	all = slices.Concat([]int{canary, canary}, l, []int{canary, canary, canary})
	return all[2 : 2+len(l)], all
}

// checkKept holds all of the memory that within made against what it was.
func checkKept(t *testing.T, what string, l, all []int) {
	t.Helper()
	if _, was := within(l); !slices.Equal(all, was) {
		t.Errorf("%s of %v: what was handed in became %v", what, l, all)
	}
}

// eachList hands on each list of at most so many of the numbers.
func eachList(numbers []int, most int, do func(l []int)) {
	do(nil)
	eachLonger(nil, numbers, most, do)
}

func eachLonger(l, numbers []int, more int, do func(l []int)) {
	if more == 0 {
		return
	}
	for _, n := range numbers {
		longer := slices.Concat(l, []int{n})
		do(slices.Clone(longer))
		eachLonger(longer, numbers, more-1, do)
	}
}

// eachRising hands on each list of some of the numbers, which rise.
func eachRising(numbers []int, do func(l []int)) {
	for which := range 1 << len(numbers) {
		var l []int
		for i, n := range numbers {
			if which&(1<<i) != 0 {
				l = append(l, n)
			}
		}
		do(l)
	}
}

// count is how often n stands in l.
func count(l []int, n int) int {
	c := 0
	for _, x := range l {
		if x == n {
			c++
		}
	}
	return c
}

// beyond are numbers of all kinds, rising.
func beyond() []int {
	return []int{
		math.MinInt, math.MinInt + 1, -1 << 32, -1 << 31, -17, -2, -1, 0, 1, 2, 9, 10, 15, 16, 17,
		63, 64, 255, 256, 1<<31 - 1, 1 << 31, 1 << 32, math.MaxInt - 1, math.MaxInt,
	}
}

// Set

// checkSet holds what Set tells of l, and what l is then, against what they have to be.
func checkSet(t *testing.T, l, want []int) {
	t.Helper()
	part, all := within(l)
	if got := order.Set(part...); !slices.Equal(got, want) {
		t.Errorf("Set of %v is %v, not %v", l, got, want)
	}
	checkKept(t, "Set", l, all)
}

func TestSet(t *testing.T) {
	for _, x := range []struct{ l, want []int }{
		{nil, nil},
		{[]int{}, nil},
		{[]int{0}, []int{0}},
		{[]int{7}, []int{7}},
		{[]int{-7}, []int{-7}},
		{[]int{1, 4, 6}, []int{1, 4, 6}},
		{[]int{6, 4, 1}, []int{1, 4, 6}},
		{[]int{4, 6, 1}, []int{1, 4, 6}},
		{[]int{5, 1, 5, -2}, []int{-2, 1, 5}},
		{[]int{3, 3}, []int{3}},
		{[]int{3, 3, 3, 3, 3}, []int{3}},
		{[]int{0, 0, 0}, []int{0}},
		{[]int{2, 1, 2, 1, 2, 1}, []int{1, 2}},
		{[]int{1, 1, 2, 2, 2, 9, 9}, []int{1, 2, 9}},
		{[]int{9, 9, 2, 2, 2, 1, 1}, []int{1, 2, 9}},
		{[]int{0, -1, 1, -1, 0}, []int{-1, 0, 1}},
		{[]int{-1, -3, -2, -3}, []int{-3, -2, -1}},
		{[]int{10, 9, 2, 100}, []int{2, 9, 10, 100}},
		{[]int{64, 15, 16, 63}, []int{15, 16, 63, 64}},
		{[]int{1 << 32, 0, 1, 1<<32 + 1}, []int{0, 1, 1 << 32, 1<<32 + 1}},
		{[]int{math.MaxInt, math.MinInt}, []int{math.MinInt, math.MaxInt}},
		{[]int{math.MaxInt, 0, math.MinInt, math.MaxInt, math.MinInt}, []int{math.MinInt, 0, math.MaxInt}},
		{[]int{math.MinInt + 1, math.MinInt, math.MaxInt, math.MaxInt - 1}, []int{math.MinInt, math.MinInt + 1, math.MaxInt - 1, math.MaxInt}},
	} {
		checkSet(t, x.l, x.want)
	}
}

func TestSetOfNumbersOneByOne(t *testing.T) {
	if got := order.Set(); len(got) != 0 {
		t.Errorf("Set() is %v", got)
	}
	if got := order.Set(3); !slices.Equal(got, []int{3}) {
		t.Errorf("Set(3) is %v", got)
	}
	if got := order.Set(3, -1, 3, 2); !slices.Equal(got, []int{-1, 2, 3}) {
		t.Errorf("Set(3, -1, 3, 2) is %v", got)
	}
}

func TestSetOfAllKinds(t *testing.T) {
	falling := beyond()
	slices.Reverse(falling)
	for _, l := range [][]int{beyond(), falling, slices.Concat(beyond(), falling), slices.Concat(falling, beyond(), falling)} {
		checkSet(t, l, beyond())
	}
}

// TestSetOfEachList holds Set against its words: each number of the list, none else, and each above the one ahead of it.
func TestSetOfEachList(t *testing.T) {
	eachList([]int{-1, 0, 1, 2, 5}, 6, func(l []int) {
		got := order.Set(l...)
		for i, n := range got {
			if count(l, n) == 0 || i > 0 && got[i-1] >= n {
				t.Fatalf("Set of %v is %v", l, got)
			}
		}
		for _, n := range l {
			if count(got, n) != 1 {
				t.Fatalf("Set of %v is %v", l, got)
			}
		}
	})
}

func TestSetOfMany(t *testing.T) {
	const many = 1 << 16
	var l, want []int
	for i := range many {
		// 40503 is odd, and many a power of 2, so that each number below many comes, once.
		l = append(l, i*40503%many-many/2)
		want = append(want, i-many/2)
	}
	checkSet(t, l, want)
	checkSet(t, slices.Concat(l, want, l), want)
}

func TestSetIsNewMemory(t *testing.T) {
	eachList([]int{2, 3, 4}, 5, func(l []int) {
		part, all := within(l)
		one, other := order.Set(part...), order.Set(part...)
		want := slices.Clone(other)
		_ = append(one, 66)
		one = one[:cap(one)]
		for i := range one {
			one[i] = -77
		}
		checkKept(t, "written into a Set", l, all)
		if !slices.Equal(other, want) {
			t.Errorf("Set of %v: another answer shows what was written: %v", l, other)
		}
		if again := order.Set(part...); !slices.Equal(again, want) {
			t.Errorf("Set of %v: a later answer shows what was written: %v", l, again)
		}
	})
}

func TestSetKeepsNothing(t *testing.T) {
	for _, l := range [][]int{{1}, {1, 2, 3}, {3, 2, 1}, {2, 1, 2}} {
		part, _ := within(l)
		got := order.Set(part...)
		want := slices.Clone(got)
		for i := range part {
			part[i] = -77
		}
		order.Set(part...)
		if !slices.Equal(got, want) {
			t.Errorf("Set of %v became %v, as what was handed in was written into", l, got)
		}
	}
}

func TestSetOfASet(t *testing.T) {
	for _, l := range [][]int{nil, {4}, {6, 1, 4, 1}, beyond()} {
		once := order.Set(l...)
		checkSet(t, once, once)
	}
}

// Next

// checkNext holds what Next tells against what it has to, and Has with it.
func checkNext(t *testing.T, members []int, car, want int, ok bool) {
	t.Helper()
	part, all := within(members)
	if n, is := order.Next(part, car); n != want || is != ok {
		t.Errorf("Next of %v and %d is %d, %v, not %d, %v", members, car, n, is, want, ok)
	}
	if is := order.Has(part, car); is != ok {
		t.Errorf("Has of %v and %d is %v", members, car, is)
	}
	checkKept(t, "Next or Has", members, all)
}

func TestNext(t *testing.T) {
	m := []int{1, 4, 6}
	checkNext(t, m, 1, 4, true)
	checkNext(t, m, 4, 6, true)
	checkNext(t, m, 6, 1, true)
	for _, car := range []int{math.MinInt, -1, 0, 2, 3, 5, 7, 16, math.MaxInt} {
		checkNext(t, m, car, 0, false)
	}
}

func TestNextOfOne(t *testing.T) {
	for _, car := range beyond() {
		checkNext(t, []int{car}, car, car, true)
	}
	for _, car := range []int{math.MinInt, -7, 0, 6, 8, math.MaxInt} {
		checkNext(t, []int{7}, car, 0, false)
	}
}

func TestNextOfNone(t *testing.T) {
	for _, car := range beyond() {
		checkNext(t, nil, car, 0, false)
		checkNext(t, []int{}, car, 0, false)
	}
}

func TestNextOfAllKinds(t *testing.T) {
	l := beyond()
	for i, car := range l {
		checkNext(t, l, car, l[(i+1)%len(l)], true)
		checkNext(t, slices.Delete(slices.Clone(l), i, i+1), car, 0, false)
	}
}

// TestNextAt0 has a next of 0, which is not as none, and members below 0.
func TestNextAt0(t *testing.T) {
	checkNext(t, []int{0, 3}, 3, 0, true)
	checkNext(t, []int{0, 3}, 0, 3, true)
	checkNext(t, []int{-3, 0}, -3, 0, true)
	checkNext(t, []int{-3, 0}, 0, -3, true)
	checkNext(t, []int{-3, -2}, -3, -2, true)
	checkNext(t, []int{-3, -2}, -2, -3, true)
	checkNext(t, []int{-3, -2}, 0, 0, false)
	checkNext(t, []int{-3, -2}, 2, 0, false)
}

// TestNextOfEachRing holds Next against a walk: up from car, number by number, and from below all again behind the last.
func TestNextOfEachRing(t *testing.T) {
	const low, high = -2, 9
	var numbers []int
	for n := low; n <= high; n++ {
		numbers = append(numbers, n)
	}
	eachRising(numbers, func(members []int) {
		for car := low - 1; car <= high+1; car++ {
			if count(members, car) == 0 {
				checkNext(t, members, car, 0, false)
				continue
			}
			at := car + 1
			for count(members, at) == 0 {
				if at++; at > high {
					at = low
				}
			}
			checkNext(t, members, car, at, true)
		}
	})
}

// TestNextGoesRound has each member come once before the first one comes again.
func TestNextGoesRound(t *testing.T) {
	eachRising([]int{0, 1, 2, 5, 8, 13, 14, 15}, func(members []int) {
		for i, car := range members {
			var got []int
			for range members {
				car, _ = order.Next(members, car)
				got = append(got, car)
			}
			want := slices.Concat(members[i+1:], members[:i+1])
			if !slices.Equal(got, want) {
				t.Fatalf("round %v from %d: %v", members, members[i], got)
			}
		}
	})
}

// TestNextOfAnyList has lists that do not rise, too: the chapter's words are taken of them as they stand.
func TestNextOfAnyList(t *testing.T) {
	eachList([]int{-1, 0, 2, 3}, 5, func(l []int) {
		for car := -2; car <= 4; car++ {
			want, ok := 0, false
			if count(l, car) > 0 {
				sorted := slices.Sorted(slices.Values(l))
				want, ok = sorted[0], true
				if i, _ := slices.BinarySearch(sorted, car+1); i < len(sorted) {
					want = sorted[i]
				}
			}
			checkNext(t, l, car, want, ok)
		}
	})
}

// Has

func TestHas(t *testing.T) {
	for _, l := range [][]int{{1, 4, 6}, {6, 1, 4}, {4, 4, 1, 6, 1}, {0}, {-5, 3}, {math.MinInt, math.MaxInt}, beyond()} {
		part, all := within(l)
		for _, n := range slices.Concat(beyond(), []int{3, 4, 5, 6, 7, -5, -6}) {
			if got := order.Has(part, n); got != (count(l, n) > 0) {
				t.Errorf("Has of %v and %d is %v", l, n, got)
			}
		}
		// Behind its length stand numbers that are not of the list.
		if order.Has(part, canary) {
			t.Errorf("Has of %v reads behind its length", l)
		}
		checkKept(t, "Has", l, all)
	}
}

func TestHasOfNone(t *testing.T) {
	for _, n := range beyond() {
		if order.Has(nil, n) || order.Has([]int{}, n) || order.Has([]int{n}[:0], n) {
			t.Errorf("Has of none and %d", n)
		}
	}
}

// Least

// checkLeast holds what Least tells of l, and what l is then, against what they have to be.
func checkLeast(t *testing.T, l []int, want int, ok bool) {
	t.Helper()
	part, all := within(l)
	if n, is := order.Least(part...); n != want || is != ok {
		t.Errorf("Least of %v is %d, %v, not %d, %v", l, n, is, want, ok)
	}
	checkKept(t, "Least", l, all)
}

func TestLeast(t *testing.T) {
	for _, x := range []struct {
		l    []int
		want int
	}{
		{[]int{3, -1, 2}, -1},
		{[]int{1, 4, 6}, 1},
		{[]int{6, 4, 1}, 1},
		{[]int{4, 1, 6}, 1},
		{[]int{5, 5}, 5},
		{[]int{5, 2, 5, 2}, 2},
		{[]int{0, 0, 0}, 0},
		{[]int{1, 0}, 0},
		{[]int{-1, 0}, -1},
		{[]int{-1, -2, -3}, -3},
		{[]int{10, 9}, 9},
		{[]int{math.MaxInt, math.MaxInt}, math.MaxInt},
		{[]int{math.MaxInt, math.MaxInt - 1}, math.MaxInt - 1},
		{[]int{math.MaxInt, math.MinInt}, math.MinInt},
		{[]int{math.MinInt + 1, math.MinInt, 0}, math.MinInt},
	} {
		checkLeast(t, x.l, x.want, true)
	}
}

func TestLeastOfNone(t *testing.T) {
	checkLeast(t, nil, 0, false)
	checkLeast(t, []int{}, 0, false)
	if n, ok := order.Least(); n != 0 || ok {
		t.Errorf("Least() is %d, %v", n, ok)
	}
}

func TestLeastOfOne(t *testing.T) {
	for _, n := range beyond() {
		checkLeast(t, []int{n}, n, true)
		checkLeast(t, []int{n, n}, n, true)
	}
	if n, ok := order.Least(3); n != 3 || !ok {
		t.Errorf("Least(3) is %d, %v", n, ok)
	}
	if n, ok := order.Least(3, 2); n != 2 || !ok {
		t.Errorf("Least(3, 2) is %d, %v", n, ok)
	}
}

// TestLeastOfEachList holds Least against its words: one of the list, with none below it.
func TestLeastOfEachList(t *testing.T) {
	eachList([]int{math.MinInt, -1, 0, 1, math.MaxInt}, 6, func(l []int) {
		if len(l) == 0 {
			return
		}
		n, ok := order.Least(l...)
		if !ok || count(l, n) == 0 {
			t.Fatalf("Least of %v is %d, %v", l, n, ok)
		}
		for _, x := range l {
			if x < n {
				t.Fatalf("Least of %v is %d", l, n)
			}
		}
	})
}

// Same

// checkSame holds what Same tells of a and b, and of b and a, against what it has to.
func checkSame(t *testing.T, a, b []int, want bool) {
	t.Helper()
	x, allX := within(a)
	y, allY := within(b)
	if order.Same(x, y) != want || order.Same(y, x) != want {
		t.Errorf("Same of %v and %v is not %v", a, b, want)
	}
	checkKept(t, "Same", a, allX)
	checkKept(t, "Same", b, allY)
}

func TestSame(t *testing.T) {
	m := []int{1, 4, 6}
	checkSame(t, m, []int{1, 4, 6}, true)
	checkSame(t, m, []int{1, 6, 4}, false)
	checkSame(t, m, []int{6, 4, 1}, false)
	checkSame(t, m, []int{4, 6, 1}, false)
	checkSame(t, m, []int{1, 4}, false)
	checkSame(t, m, []int{4, 6}, false)
	checkSame(t, m, []int{1, 4, 6, 6}, false)
	checkSame(t, m, []int{1, 4, 6, 0}, false)
	checkSame(t, m, []int{0, 1, 4, 6}, false)
	checkSame(t, m, []int{1, 4, 7}, false)
	checkSame(t, m, []int{0, 4, 6}, false)
	checkSame(t, m, []int{1, 5, 6}, false)
	checkSame(t, []int{2, 2, 3}, []int{2, 3, 3}, false)
	checkSame(t, []int{2, 2}, []int{2}, false)
	checkSame(t, []int{-1}, []int{1}, false)
	checkSame(t, []int{0}, []int{1 << 32}, false)
	checkSame(t, []int{math.MinInt}, []int{math.MaxInt}, false)
	checkSame(t, []int{math.MinInt, math.MaxInt}, []int{math.MinInt, math.MaxInt}, true)
	checkSame(t, beyond(), beyond(), true)
}

func TestSameOfNone(t *testing.T) {
	if !order.Same(nil, nil) || !order.Same(nil, []int{}) || !order.Same([]int{}, nil) || !order.Same([]int{}, []int{}) {
		t.Error("none and none are not the same")
	}
	if !order.Same(nil, []int{5}[:0]) || !order.Same([]int{5}[:0], []int{6}[:0]) {
		t.Error("none, and none with memory behind it, are not the same")
	}
	for _, l := range [][]int{{0}, {1}, {-1}, {0, 0}} {
		if order.Same(nil, l) || order.Same(l, nil) || order.Same([]int{}, l) || order.Same(l, []int{}) {
			t.Errorf("none and %v are the same", l)
		}
	}
}

func TestSameMemory(t *testing.T) {
	l := []int{5, 5, 5, 7}
	if !order.Same(l, l) || !order.Same(l[:2], l[1:3]) {
		t.Error("the same numbers of one memory are not the same")
	}
	if order.Same(l, l[:3]) || order.Same(l[:3], l[1:]) {
		t.Error("other numbers of one memory are the same")
	}
}

// TestSameOfEachTwo holds each two lists against each other: those made at different times are not the same.
func TestSameOfEachTwo(t *testing.T) {
	var lists [][]int
	eachList([]int{0, 1, 3}, 5, func(l []int) { lists = append(lists, l) })
	for i, a := range lists {
		for k, b := range lists {
			if order.Same(a, slices.Clone(b)) != (i == k) {
				t.Fatalf("Same of %v and %v is not %v", a, b, i == k)
			}
		}
	}
}

// TestNothingIsKept has each call asked again, behind others.
func TestNothingIsKept(t *testing.T) {
	m := []int{1, 4, 6}
	for range 3 {
		checkSet(t, []int{6, 1, 6, 4}, m)
		checkNext(t, m, 6, 1, true)
		checkNext(t, m, 5, 0, false)
		checkLeast(t, m, 1, true)
		checkLeast(t, nil, 0, false)
		checkSame(t, m, []int{1, 4}, false)
		checkSame(t, m, []int{1, 4, 6}, true)
	}
}
