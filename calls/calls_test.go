package calls_test

import (
	"fmt"
	"math"
	"slices"
	"testing"

	"paternoster/api"
	"paternoster/calls"
)

// P11.1

// The directions, told anew.
const (
	down = -1
	up   = 1
)

// call is that of a floor and a direction.
func call(floor, dir int) api.Call {
	return api.Call{Floor: floor, Dir: dir}
}

// latch is that of a floor, a direction and a Gen.
func latch(floor, dir, gen int) api.Latch {
	return api.Latch{Call: call(floor, dir), Gen: gen}
}

// rising are calls in their order, of all kinds of floors and Dirs.
func rising() []api.Call {
	var l []api.Call
	for _, floor := range []int{math.MinInt, math.MinInt + 1, -1 << 32, -257, -256, -2, -1, 0, 1, 2, 62, 63, 64, 255, 256, 257, 1 << 16, 1<<32 - 1, 1 << 32, 1<<32 + 1, math.MaxInt - 1, math.MaxInt} {
		for _, dir := range []int{math.MinInt, -1 << 32, -256, -2, down, 0, up, 2, 255, 256, 1<<32 + 1, math.MaxInt} {
			l = append(l, call(floor, dir))
		}
	}
	return l
}

// holds holds what s tells, by All, Len, Has and Get, against what has to be, in the calls' order.
func holds(t *testing.T, what string, s *calls.Set, want ...api.Latch) {
	t.Helper()
	if got := s.All(); !slices.Equal(got, want) {
		t.Errorf("%s: All is %v, not %v", what, got, want)
	}
	if got := s.Len(); got != len(want) {
		t.Errorf("%s: Len is %d, not %d", what, got, len(want))
	}
	for _, l := range want {
		if got, is := s.Get(l.Call); !is || got != l {
			t.Errorf("%s: Get(%v) = %v, %v, not %v", what, l.Call, got, is, l)
		}
		if !s.Has(l.Call) {
			t.Errorf("%s: Has(%v) = false", what, l.Call)
		}
	}
}

// lacks has s asked for c, which it must not have.
func lacks(t *testing.T, what string, s *calls.Set, c api.Call) {
	t.Helper()
	if s.Has(c) {
		t.Errorf("%s: Has(%v) = true", what, c)
	}
	if l, is := s.Get(c); is || l != (api.Latch{}) {
		t.Errorf("%s: Get(%v) = %v, %v", what, c, l, is)
	}
}

// put has l Put into s, which has to answer want.
func put(t *testing.T, what string, s *calls.Set, l api.Latch, want bool) {
	t.Helper()
	if got := s.Put(l); got != want {
		t.Errorf("%s: Put(%v) = %v", what, l, got)
	}
}

// del has c deleted from s, which has to answer want, and to be without it then.
func del(t *testing.T, what string, s *calls.Set, c api.Call, want bool) {
	t.Helper()
	if got := s.Del(c); got != want {
		t.Errorf("%s: Del(%v) = %v", what, c, got)
	}
	lacks(t, what+", deleted", s, c)
}

// keep has s keep l, which has to answer want.
func keep(t *testing.T, what string, s *calls.Set, want int, l ...api.Latch) {
	t.Helper()
	if got := s.Keep(l); got != want {
		t.Errorf("%s: Keep(%v) = %d, not %d", what, l, got, want)
	}
}

// of is a set that each of l was Put into.
func of(t *testing.T, l ...api.Latch) *calls.Set {
	t.Helper()
	var s calls.Set
	for _, x := range l {
		put(t, "made", &s, x, true)
	}
	return &s
}

// some is a set of five latches, Put out of order.
func some(t *testing.T) *calls.Set {
	t.Helper()
	s := of(t, latch(4, up, 2), latch(2, down, 1), latch(7, down, 1), latch(4, down, 5), latch(2, up, 3))
	holds(t, "made", s, someAll()...)
	return s
}

// someAll is what some has, in the calls' order.
func someAll() []api.Latch {
	return []api.Latch{latch(2, down, 1), latch(2, up, 3), latch(4, down, 5), latch(4, up, 2), latch(7, down, 1)}
}

// without is someAll without those of the numbers.
func without(numbers ...int) []api.Latch {
	var l []api.Latch
	for i, x := range someAll() {
		if !slices.Contains(numbers, i) {
			l = append(l, x)
		}
	}
	return l
}

// Less

func TestLess(t *testing.T) {
	for _, x := range []struct {
		a, b api.Call
		want bool
	}{
		{call(1, up), call(2, down), true}, {call(2, down), call(1, up), false},
		{call(1, down), call(2, down), true}, {call(2, up), call(1, up), false},
		{call(3, down), call(3, up), true}, {call(3, up), call(3, down), false},
		{call(3, down), call(3, down), false}, {call(3, up), call(3, up), false}, {api.Call{}, api.Call{}, false},
		{call(-1, up), call(0, down), true}, {call(-2, up), call(-1, down), true}, {call(-1, down), call(-2, up), false},
		{call(3, 0), call(3, up), true}, {call(3, down), call(3, 0), true}, {call(3, 0), call(3, 0), false}, {call(3, 0), call(3, down), false},
		{call(3, -2), call(3, down), true}, {call(3, up), call(3, 2), true}, {call(3, -9), call(3, -8), true}, {call(3, -8), call(3, -9), false},
		{call(2, 100), call(3, -100), true}, {call(3, -100), call(2, 100), false},
		{call(math.MinInt, 0), call(math.MaxInt, 0), true}, {call(math.MaxInt, 0), call(math.MinInt, 0), false},
		{call(5, math.MinInt), call(5, math.MaxInt), true}, {call(5, math.MaxInt), call(5, math.MinInt), false},
		{call(math.MinInt, 0), call(1, 0), true}, {call(1, 0), call(math.MinInt, 0), false},
		{call(5, math.MinInt), call(5, up), true}, {call(5, up), call(5, math.MinInt), false},
		{call(0, 0), call(1<<32, 0), true}, {call(1<<32, 0), call(0, 0), false}, {call(0, 256), call(0, 0), false},
	} {
		if got := calls.Less(x.a, x.b); got != x.want {
			t.Errorf("Less(%v, %v) = %v", x.a, x.b, got)
		}
	}
}

func TestLessOfEveryTwo(t *testing.T) {
	l := rising()
	for i, a := range l {
		for k, b := range l {
			if got := calls.Less(a, b); got != (i < k) {
				t.Errorf("Less(%v, %v) = %v", a, b, got)
			}
		}
	}
}

// Put

// TestExample is the chapter's: Put, Put of the same call: the second one false.
func TestExample(t *testing.T) {
	var s calls.Set
	put(t, "first", &s, latch(3, up, 1), true)
	put(t, "second", &s, latch(3, up, 2), false)
	holds(t, "at last", &s, latch(3, up, 2))
}

func TestPutIntoTheZeroValue(t *testing.T) {
	for _, l := range []api.Latch{{}, latch(0, up, 1), latch(63, down, 1), latch(-5, 9, -3), latch(math.MinInt, math.MaxInt, math.MinInt), latch(math.MaxInt, math.MinInt, math.MaxInt)} {
		var s calls.Set
		put(t, "zero", &s, l, true)
		holds(t, "zero", &s, l)
		put(t, "again", &s, l, false)
		holds(t, "again", &s, l)
	}
}

func TestPutAtEachPlace(t *testing.T) {
	for _, x := range []struct {
		l     api.Latch
		place int
	}{
		{latch(1, up, 1), 0}, {latch(-9, up, 1), 0}, {latch(2, -2, 1), 0}, {latch(math.MinInt, up, 1), 0},
		{latch(2, 0, 1), 1}, {latch(3, down, 1), 2}, {latch(2, 2, 1), 2}, {latch(3, up, 9), 2}, {latch(4, 0, 1), 3}, {latch(5, up, 1), 4}, {latch(7, -2, 1), 4},
		{latch(7, up, 1), 5}, {latch(8, down, 1), 5}, {latch(99, 0, 1), 5}, {latch(math.MaxInt, up, 1), 5},
	} {
		s := some(t)
		lacks(t, "ahead of it", s, x.l.Call)
		put(t, "among five", s, x.l, true)
		holds(t, fmt.Sprint("with ", x.l), s, slices.Insert(someAll(), x.place, x.l)...)
	}
}

// TestPutLastCounts has each of five Put again, with Gens of all kinds: the last one counts, be it elder or later.
func TestPutLastCounts(t *testing.T) {
	for i, was := range someAll() {
		s := some(t)
		for _, gen := range []int{was.Gen - 1, was.Gen + 1, was.Gen, was.Gen, 0, -7, was.Gen + 256, was.Gen + 1<<32, math.MinInt, math.MaxInt, 1} {
			l := api.Latch{Call: was.Call, Gen: gen}
			put(t, "another Gen", s, l, false)
			want := someAll()
			want[i] = l
			holds(t, "another Gen", s, want...)
		}
	}
}

// common is the greatest number that divides a and b.
func common(a, b int) int {
	for b > 0 {
		a, b = b, a%b
	}
	return a
}

// TestPutInEveryTurn goes round all kinds of calls by steps of each length.
func TestPutInEveryTurn(t *testing.T) {
	all := rising()
	for step := 1; step < len(all); step++ {
		if common(step, len(all)) > 1 {
			continue // it would not come by each of them
		}
		var s calls.Set
		for i := range all {
			c := all[i*step%len(all)]
			if !s.Put(api.Latch{Call: c, Gen: i}) || s.Put(api.Latch{Call: c, Gen: i + 1}) {
				t.Fatalf("by steps of %d: Put of %v, the %d-th", step, c, i)
			}
		}
		var got []api.Call
		for _, l := range s.All() {
			got = append(got, l.Call)
		}
		if !slices.Equal(got, all) || s.Len() != len(all) {
			t.Errorf("by steps of %d: All is %v", step, got)
		}
	}
}

// TestMany has more than any house has calls.
func TestMany(t *testing.T) {
	var s calls.Set
	var want []api.Latch
	for n := range 5000 {
		floor := n * 1237 % 5000
		put(t, "many", &s, latch(floor, up, floor), true)
		want = append(want, latch(n, up, n))
	}
	holds(t, "many", &s, want...)
	keep(t, "many", &s, 4900, want[1000:1100]...)
	holds(t, "some of many", &s, want[1000:1100]...)
}

// Del

func TestDelAtEachPlace(t *testing.T) {
	for i, l := range someAll() {
		s := some(t)
		del(t, "one of five", s, l.Call, true)
		holds(t, fmt.Sprint("without ", l), s, without(i)...)
		del(t, "the same again", s, l.Call, false)
		holds(t, fmt.Sprint("without ", l, " still"), s, without(i)...)
		put(t, "behind a Del", s, latch(l.Call.Floor, l.Call.Dir, 77), true)
		del(t, "behind a Put", s, l.Call, true)
		holds(t, fmt.Sprint("without ", l, " anew"), s, without(i)...)
	}
}

func TestDelOfTheOnlyOne(t *testing.T) {
	for _, gen := range []int{1, 2, 0, -1, math.MinInt, math.MaxInt} {
		s := of(t, latch(3, down, gen))
		del(t, "the only one", s, call(3, down), true)
		holds(t, "none left", s)
		del(t, "none left", s, call(3, down), false)
		put(t, "none left", s, latch(3, down, 1), true)
		holds(t, "anew", s, latch(3, down, 1))
	}
}

func TestDelOfNone(t *testing.T) {
	var zero calls.Set
	for _, c := range rising() {
		del(t, "zero", &zero, c, false)
	}
	holds(t, "zero", &zero)
	s := some(t)
	for _, c := range missing() {
		del(t, "not there", s, c, false)
		holds(t, fmt.Sprint("behind a Del of ", c), s, someAll()...)
	}
}

// missing are calls that some has not: of its floors the other way, of no way, of floors about its own, and at a wrap of their numbers.
func missing() []api.Call {
	l := []api.Call{call(7, up), call(2, 0), call(4, 0), call(4, 2), call(4, -2), call(0, up), call(1, down), call(3, up), call(5, down), call(6, up), call(8, down), call(-2, down), call(-4, up)}
	for _, x := range someAll() {
		for _, wrap := range []int{256, -256, 1 << 16, 1 << 32, -1 << 32} {
			l = append(l, call(x.Call.Floor+wrap, x.Call.Dir), call(x.Call.Floor, x.Call.Dir+wrap))
		}
		l = append(l, call(math.MinInt, x.Call.Dir), call(math.MaxInt, x.Call.Dir), call(x.Call.Floor, math.MinInt), call(x.Call.Floor, math.MaxInt))
	}
	return l
}

// TestDelEach takes all out, in each of a few turns.
func TestDelEach(t *testing.T) {
	for _, turn := range [][]int{{0, 1, 2, 3, 4}, {4, 3, 2, 1, 0}, {2, 0, 4, 1, 3}, {1, 3, 0, 4, 2}} {
		s := some(t)
		for n, i := range turn {
			del(t, "each", s, someAll()[i].Call, true)
			holds(t, fmt.Sprint("behind ", turn[:n+1]), s, without(turn[:n+1]...)...)
		}
	}
}

// Has, Get

func TestHasAndGet(t *testing.T) {
	var zero calls.Set
	for _, c := range rising() {
		lacks(t, "zero", &zero, c)
	}
	s := some(t)
	for range 2 {
		holds(t, "what is there", s, someAll()...)
		for _, c := range missing() {
			lacks(t, "never there", s, c)
		}
	}
	for _, l := range someAll() {
		del(t, "deleted", s, l.Call, true)
		lacks(t, "deleted", s, l.Call)
	}
}

// TestGetOfGenNought has a latch that is its zero value, which is one nevertheless.
func TestGetOfGenNought(t *testing.T) {
	s := of(t, api.Latch{})
	if l, is := s.Get(api.Call{}); !is || l != (api.Latch{}) || !s.Has(api.Call{}) {
		t.Errorf("Get = %v, %v", l, is)
	}
	keep(t, "zero", s, 0, api.Latch{})
	del(t, "zero", s, api.Call{}, true)
}

// All, Len

func TestAll(t *testing.T) {
	var zero calls.Set
	holds(t, "none", &zero)
	holds(t, "one", of(t, latch(1, up, 4)), latch(1, up, 4))
	s := of(t, latch(1, up, 1), latch(0, up, 1), latch(1, down, 1), latch(-1, up, 1), latch(1, 5, 1), latch(1, -5, 1), latch(1, 0, 1))
	holds(t, "seven", s, latch(-1, up, 1), latch(0, up, 1), latch(1, -5, 1), latch(1, down, 1), latch(1, 0, 1), latch(1, up, 1), latch(1, 5, 1))
}

// TestAllIsNewMemory writes into what All handed out, and appends to it.
func TestAllIsNewMemory(t *testing.T) {
	s := some(t)
	a, b := s.All(), s.All()
	for i := range a {
		a[i] = latch(99, 99, 99)
	}
	for range 4 {
		a = append(a[:cap(a)], latch(98, 98, 98))
		b = append(b, latch(97, 97, 97))
	}
	holds(t, "behind writes", s, someAll()...)
	if !slices.Equal(b[:5], someAll()) {
		t.Errorf("b is %v", b)
	}
	put(t, "behind writes", s, latch(9, up, 1), true)
	put(t, "behind writes", s, latch(2, down, 8), false)
	del(t, "behind writes", s, call(4, down), true)
	if !slices.Equal(b[:5], someAll()) || b[5] != latch(97, 97, 97) {
		t.Errorf("b is %v", b)
	}
	holds(t, "told anew", s, latch(2, down, 8), latch(2, up, 3), latch(4, up, 2), latch(7, down, 1), latch(9, up, 1))
}

// TestAllStaysAsItWasHandedOut has the set go on in each way behind an All, whose spare room is nobody's either.
func TestAllStaysAsItWasHandedOut(t *testing.T) {
	for name, play := range map[string]func(s *calls.Set){
		"Put in front": func(s *calls.Set) { s.Put(latch(0, up, 1)) },
		"Put behind":   func(s *calls.Set) { s.Put(latch(9, up, 1)) },
		"Put again":    func(s *calls.Set) { s.Put(latch(4, up, 9)) },
		"Del":          func(s *calls.Set) { s.Del(call(2, down)) },
		"Keep none":    func(s *calls.Set) { s.Keep(nil) },
		"Keep one":     func(s *calls.Set) { s.Keep([]api.Latch{latch(7, down, 1)}) },
	} {
		s := some(t)
		l := s.All()
		spare := l[:cap(l)]
		was := slices.Clone(spare)
		play(s)
		if !slices.Equal(spare, was) {
			t.Errorf("%s: it is %v, not %v", name, spare, was)
		}
	}
}

func TestLenBehindEach(t *testing.T) {
	var s calls.Set
	length := func(want int) {
		t.Helper()
		if got := s.Len(); got != want {
			t.Errorf("Len is %d, not %d", got, want)
		}
	}
	length(0)
	s.Put(latch(1, up, 1))
	length(1)
	s.Put(latch(1, up, 2))
	length(1)
	s.Put(latch(1, down, 1))
	length(2)
	s.Del(call(5, up))
	length(2)
	s.Del(call(1, up))
	length(1)
	s.Keep([]api.Latch{latch(1, down, 1), latch(2, up, 1)})
	length(1)
	s.Has(call(1, down))
	s.Get(call(1, down))
	s.All()
	s.Clone()
	length(1)
	s.Keep([]api.Latch{latch(1, down, 2)})
	length(0)
}

// Keep

func TestKeep(t *testing.T) {
	a := someAll()
	for _, x := range []struct {
		name string
		l    []api.Latch
		gone []int
	}{
		{"none", nil, []int{0, 1, 2, 3, 4}},
		{"an empty list", []api.Latch{}, []int{0, 1, 2, 3, 4}},
		{"all", a, nil},
		{"all, falling", []api.Latch{a[4], a[3], a[2], a[1], a[0]}, nil},
		{"the first", []api.Latch{a[0]}, []int{1, 2, 3, 4}},
		{"the last", []api.Latch{a[4]}, []int{0, 1, 2, 3}},
		{"all but the first", a[1:], []int{0}},
		{"all but the last", a[:4], []int{4}},
		{"some, out of order", []api.Latch{a[3], a[0], a[2]}, []int{1, 4}},
		{"the same twice", []api.Latch{a[2], a[1], a[2], a[2], a[1]}, []int{0, 3, 4}},
		{"one that is not there", []api.Latch{latch(5, up, 1)}, []int{0, 1, 2, 3, 4}},
		{"some that are not there", []api.Latch{latch(5, up, 1), a[1], latch(4, 0, 2), latch(7, up, 1), a[4], latch(-2, down, 1), latch(2, 256+up, 3)}, []int{0, 2, 3}},
		{"a later Gen", []api.Latch{latch(2, down, 2), a[1]}, []int{0, 2, 3, 4}},
		{"an elder Gen", []api.Latch{latch(4, down, 4), a[1]}, []int{0, 2, 3, 4}},
		{"all with another Gen", []api.Latch{latch(2, down, 0), latch(2, up, -3), latch(4, down, 5+256), latch(4, up, 2+1<<32), latch(7, down, math.MaxInt)}, []int{0, 1, 2, 3, 4}},
		{"another Gen ahead of its own", []api.Latch{latch(2, up, 2), a[1]}, []int{0, 2, 3, 4}},
		{"another Gen behind its own", []api.Latch{a[1], latch(2, up, 2), latch(2, up, 4)}, []int{0, 2, 3, 4}},
	} {
		s := some(t)
		keep(t, x.name, s, len(x.gone), x.l...)
		holds(t, "Keep of "+x.name, s, without(x.gone...)...)
		for _, i := range x.gone {
			lacks(t, "Keep of "+x.name, s, a[i].Call)
		}
		keep(t, x.name+", twice", s, 0, x.l...)
		holds(t, "Keep, twice, of "+x.name, s, without(x.gone...)...)
		put(t, x.name, s, latch(4, -2, 1), true)
		for i, l := range a {
			put(t, x.name, s, l, slices.Contains(x.gone, i))
		}
		holds(t, "behind a Keep of "+x.name, s, slices.Insert(someAll(), 2, latch(4, -2, 1))...)
	}
}

func TestKeepOfTheZeroValue(t *testing.T) {
	for _, l := range [][]api.Latch{nil, {}, {{}}, someAll()} {
		var s calls.Set
		keep(t, "zero", &s, 0, l...)
		holds(t, "zero", &s)
		for _, x := range l {
			lacks(t, "zero", &s, x.Call)
		}
		put(t, "zero", &s, latch(2, up, 1), true)
		holds(t, "behind it", &s, latch(2, up, 1))
	}
}

// TestKeepEachPart keeps each part of five.
func TestKeepEachPart(t *testing.T) {
	for part := range 1 << 5 {
		var kept []api.Latch
		for i, l := range someAll() {
			if part>>i&1 == 1 {
				kept = append(kept, l)
			}
		}
		s := some(t)
		keep(t, "a part", s, 5-len(kept), kept...)
		holds(t, fmt.Sprint("Keep of ", kept), s, kept...)
	}
}

// TestKeepLeavesItsList has a list with things behind its length, that stays as it is, and is nobody's.
func TestKeepLeavesItsList(t *testing.T) {
	a := someAll()
	memory := []api.Latch{a[3], a[1], latch(2, up, 9), a[1], latch(5, up, 1), a[0], a[2]}
	was := slices.Clone(memory)
	s := some(t)
	keep(t, "a part of a list", s, 3, memory[:5]...)
	want := []api.Latch{a[1], a[3]}
	holds(t, "a part of a list", s, want...)
	if !slices.Equal(memory, was) {
		t.Errorf("the list is %v", memory)
	}
	for i := range memory {
		memory[i] = latch(99, 99, 99)
	}
	holds(t, "written into", s, want...)
	put(t, "behind it", s, latch(8, up, 1), true)
	put(t, "behind it", s, latch(1, up, 1), true)
	put(t, "behind it", s, latch(2, up, 8), false)
	del(t, "behind it", s, call(4, up), true)
	for i := range memory {
		if memory[i] != latch(99, 99, 99) {
			t.Errorf("the list is %v", memory)
		}
	}
	holds(t, "at last", s, latch(1, up, 1), latch(2, up, 8), latch(8, up, 1))
}

// TestKeepOfItsOwnAll hands a set what it told itself, and a part of it.
func TestKeepOfItsOwnAll(t *testing.T) {
	s := some(t)
	l := s.All()
	keep(t, "its own", s, 0, l...)
	holds(t, "its own", s, someAll()...)
	keep(t, "its own, a part", s, 3, l[2:4]...)
	holds(t, "its own, a part", s, someAll()[2:4]...)
	if !slices.Equal(l, someAll()) {
		t.Errorf("the list is %v", l)
	}
}

// Clone

func TestCloneGoesItsOwnWay(t *testing.T) {
	for name, play := range map[string]func(s *calls.Set){
		"Put in front": func(s *calls.Set) { s.Put(latch(0, up, 1)) },
		"Put between":  func(s *calls.Set) { s.Put(latch(3, up, 1)) },
		"Put behind":   func(s *calls.Set) { s.Put(latch(9, up, 1)) },
		"Put again":    func(s *calls.Set) { s.Put(latch(4, up, 9)) },
		"Del first":    func(s *calls.Set) { s.Del(call(2, down)) },
		"Del last":     func(s *calls.Set) { s.Del(call(7, down)) },
		"Del, Put": func(s *calls.Set) {
			s.Del(call(7, down))
			s.Put(latch(9, up, 1))
		},
		"Keep none": func(s *calls.Set) { s.Keep(nil) },
		"Keep some": func(s *calls.Set) { s.Keep(someAll()[2:4]) },
	} {
		changed := some(t)
		play(changed)
		want := changed.All()
		s := some(t)
		c := s.Clone()
		holds(t, name+": the clone", c, someAll()...)
		play(s)
		holds(t, name+": the clone, behind the other's", c, someAll()...)
		holds(t, name+": the other", s, want...)
		play(c)
		holds(t, name+": the clone, behind its own", c, want...)
		s = some(t)
		c = s.Clone()
		play(c)
		holds(t, name+": what was cloned", s, someAll()...)
		holds(t, name+": the clone alone", c, want...)
	}
}

// TestClonesWithRoomLeft clones a set that was longer, and has both grow again.
func TestClonesWithRoomLeft(t *testing.T) {
	s := some(t)
	for range 20 {
		put(t, "longer", s, latch(50, up, 1), true)
		del(t, "shorter", s, call(50, up), true)
	}
	c := s.Clone()
	d := c.Clone()
	put(t, "s", s, latch(8, up, 1), true)
	put(t, "c", c, latch(9, up, 2), true)
	put(t, "d", d, latch(1, up, 3), true)
	holds(t, "s", s, append(someAll(), latch(8, up, 1))...)
	holds(t, "c", c, append(someAll(), latch(9, up, 2))...)
	holds(t, "d", d, append([]api.Latch{latch(1, up, 3)}, someAll()...)...)
}

func TestCloneOfTheZeroValue(t *testing.T) {
	var s calls.Set
	c := s.Clone()
	holds(t, "the clone", c)
	put(t, "the clone", c, latch(1, up, 1), true)
	holds(t, "what was cloned", &s)
	put(t, "what was cloned", &s, latch(2, up, 1), true)
	holds(t, "the clone", c, latch(1, up, 1))
	holds(t, "what was cloned", &s, latch(2, up, 1))
}

func TestEachIsItsOwn(t *testing.T) {
	var a, b calls.Set
	put(t, "a", &a, latch(1, up, 1), true)
	holds(t, "b", &b)
	put(t, "b", &b, latch(1, up, 2), true)
	del(t, "a", &a, call(1, up), true)
	holds(t, "b", &b, latch(1, up, 2))
}

// Each play of a few calls

// told is a set as the chapter tells it, plainly: latches in no order.
type told []api.Latch

func (s *told) put(l api.Latch) bool {
	for i, x := range *s {
		if x.Call == l.Call {
			(*s)[i] = l
			return false
		}
	}
	*s = append(*s, l)
	return true
}

func (s *told) drop(gone func(x api.Latch) bool) int {
	var left told
	for _, x := range *s {
		if !gone(x) {
			left = append(left, x)
		}
	}
	n := len(*s) - len(left)
	*s = left
	return n
}

// all has the calls of the floors and Dirs that are played with, in their order.
func (s *told) all() []api.Latch {
	var l []api.Latch
	for floor := 0; floor < 3; floor++ {
		for dir := -1; dir <= 1; dir++ {
			for _, x := range *s {
				if x.Call == call(floor, dir) {
					l = append(l, x)
				}
			}
		}
	}
	return l
}

// move is one call, done to a set and to one that is told; whether they answer the same.
type move struct {
	name string
	do   func(s *calls.Set, p *told) bool
}

// moves are those that are played with.
func moves() []move {
	var l []move
	for _, x := range []api.Latch{latch(0, up, 1), latch(1, down, 1), latch(1, up, 1), latch(1, up, 2), latch(2, down, 1)} {
		l = append(l, move{fmt.Sprint("Put ", x), func(s *calls.Set, p *told) bool { return s.Put(x) == p.put(x) }})
	}
	for _, c := range []api.Call{call(0, up), call(1, up), call(2, down)} {
		l = append(l, move{fmt.Sprint("Del ", c), func(s *calls.Set, p *told) bool {
			return s.Del(c) == (p.drop(func(x api.Latch) bool { return x.Call == c }) == 1)
		}})
	}
	for _, kept := range [][]api.Latch{nil, {latch(1, up, 1)}, {latch(2, down, 1), latch(1, up, 2), latch(0, up, 1), latch(2, down, 1)}, {latch(1, down, 1), latch(1, up, 2)}} {
		l = append(l, move{fmt.Sprint("Keep ", kept), func(s *calls.Set, p *told) bool {
			return s.Keep(kept) == p.drop(func(x api.Latch) bool { return !slices.Contains(kept, x) })
		}})
	}
	return l
}

// TestEachPlay plays each five moves, on clones, against the told one.
func TestEachPlay(t *testing.T) {
	all := moves()
	var play func(s *calls.Set, p told, names []string)
	play = func(s *calls.Set, p told, names []string) {
		if got := s.All(); !slices.Equal(got, p.all()) || s.Len() != len(p) {
			t.Fatalf("%v: All is %v, Len %d, told %v", names, got, s.Len(), p.all())
		}
		if len(names) == 5 {
			return
		}
		for _, m := range all {
			other, q := s.Clone(), slices.Clone(p)
			if !m.do(other, &q) {
				t.Fatalf("%v, %s: another answer", names, m.name)
			}
			play(other, q, append(names[:len(names):len(names)], m.name))
		}
	}
	play(&calls.Set{}, nil, nil)
}
