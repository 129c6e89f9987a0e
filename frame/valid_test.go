package frame_test

import (
	"math"
	"testing"

	"paternoster/api"
	"paternoster/frame"
)

// checkValid holds what Valid answers of f against what it has to, and Bytes too.
func checkValid(t *testing.T, what string, f api.Frame, want error) {
	t.Helper()
	if err := frame.Valid(f); err != want {
		t.Errorf("%s: Valid: %v, not %v", what, err, want)
	}
	if b, err := frame.Bytes(f); err != want || (want != nil) != (len(b) == 0) {
		t.Errorf("%s: Bytes: %v, %v, not %v", what, b, err, want)
	}
}

// A fault is an edit that makes a frame not Valid, with the error.
type fault struct {
	edit
	want error
}

// of is a fault.
func of(want error, name string, do func(f *api.Frame)) fault {
	return fault{edit{name, do}, want}
}

// headFaults are those of every frame, in the chapter's order.
func headFaults() []fault {
	return []fault{
		of(api.ErrKind, "Kind 0", func(f *api.Frame) { f.Kind = 0 }),
		of(api.ErrKind, "Kind 3", func(f *api.Frame) { f.Kind = 3 }),
		of(api.ErrKind, "Kind -1", func(f *api.Frame) { f.Kind = -1 }),
		of(api.ErrKind, "Kind 257", func(f *api.Frame) { f.Kind = 257 }),
		of(api.ErrKind, "Kind far below", func(f *api.Frame) { f.Kind = math.MinInt }),
		of(api.ErrRange, "From -1", func(f *api.Frame) { f.From = -1 }),
		of(api.ErrRange, "From MaxCars", func(f *api.Frame) { f.From = mostCars }),
		of(api.ErrRange, "To -1", func(f *api.Frame) { f.To = -1 }),
		of(api.ErrRange, "To MaxCars", func(f *api.Frame) { f.To = mostCars }),
	}
}

// beatFaults are those of a beat alone.
func beatFaults() []fault {
	return []fault{
		of(api.ErrRange, "Life -1", func(f *api.Frame) { f.Life = -1 }),
		of(api.ErrRange, "Life 2^48", func(f *api.Frame) { f.Life = mostKept + 1 }),
		of(api.ErrRange, "Seen -1", func(f *api.Frame) { f.Seen = -1 }),
		of(api.ErrRange, "Seen 2^48", func(f *api.Frame) { f.Seen = mostKept + 1 }),
		of(api.ErrRange, "Count", func(f *api.Frame) { f.Ring.Epoch.Count = 1 }),
		of(api.ErrRange, "Count -1", func(f *api.Frame) { f.Ring.Epoch.Count = -1 }),
		of(api.ErrRange, "Founder", func(f *api.Frame) { f.Ring.Epoch.Founder = 1 }),
		of(api.ErrRange, "Hop", func(f *api.Frame) { f.Ring.Hop = 1 }),
		of(api.ErrRange, "Members", func(f *api.Frame) { f.Ring.Members = []int{0} }),
		of(api.ErrRange, "Members too many", func(f *api.Frame) { f.Ring.Members = make([]int, mostCars+1) }),
		of(api.ErrRange, "Entries", func(f *api.Frame) { f.Ring.Entries = make([]api.Entry, 1) }),
		of(api.ErrRange, "Entries too many", func(f *api.Frame) { f.Ring.Entries = make([]api.Entry, mostEntries+1) }),
		of(api.ErrRange, "a Ring as of a token", func(f *api.Frame) { f.Ring = token().Ring }),
	}
}

// tokenFaults are those of a token alone, in the chapter's order.
func tokenFaults() []fault {
	out := []fault{
		of(api.ErrRange, "Life 1", func(f *api.Frame) { f.Life = 1 }),
		of(api.ErrRange, "Life -1", func(f *api.Frame) { f.Life = -1 }),
		of(api.ErrRange, "Seen 1", func(f *api.Frame) { f.Seen = 1 }),
		of(api.ErrRange, "Seen -1", func(f *api.Frame) { f.Seen = -1 }),
		of(api.ErrRange, "Out", func(f *api.Frame) { f.Out = true }),
		of(api.ErrRange, "Count 0", func(f *api.Frame) { f.Ring.Epoch.Count = 0 }),
		of(api.ErrRange, "Count above", func(f *api.Frame) { f.Ring.Epoch.Count = mostCount + 1 }),
		of(api.ErrRange, "Founder -1", func(f *api.Frame) { f.Ring.Epoch.Founder = -1 }),
		of(api.ErrRange, "Founder MaxCars", func(f *api.Frame) { f.Ring.Epoch.Founder = mostCars }),
		of(api.ErrRange, "Hop -1", func(f *api.Frame) { f.Ring.Hop = -1 }),
		of(api.ErrRange, "Hop above", func(f *api.Frame) { f.Ring.Hop = mostHop + 1 }),
		of(api.ErrMany, "no Members", func(f *api.Frame) { f.Ring.Members = nil }),
		of(api.ErrMany, "empty Members", func(f *api.Frame) { f.Ring.Members = []int{} }),
		of(api.ErrMany, "Members too many", func(f *api.Frame) { f.Ring.Members = make([]int, mostCars+1) }),
		of(api.ErrMany, "Entries too many", func(f *api.Frame) { f.Ring.Entries = make([]api.Entry, mostEntries+1) }),
		of(api.ErrRange, "last Member MaxCars", func(f *api.Frame) { f.Ring.Members[3] = mostCars }),
		of(api.ErrRange, "first Member -1", func(f *api.Frame) { f.Ring.Members[0] = -1 }),
		of(api.ErrTwice, "a Member twice", func(f *api.Frame) { f.Ring.Members[1] = f.Ring.Members[0] }),
		of(api.ErrTwice, "Members that fall", func(f *api.Frame) { f.Ring.Members[2], f.Ring.Members[3] = 9, 6 }),
	}
	for i := range token().Ring.Entries {
		out = append(out, entryFaults(i)...)
	}
	return out
}

// entryFaults are those of the i-th entry, in the chapter's order.
func entryFaults(i int) []fault {
	on := func(want error, name string, do func(e *api.Entry)) fault {
		return of(want, string(rune('0'+i))+": "+name, func(f *api.Frame) { do(&f.Ring.Entries[i]) })
	}
	out := []fault{
		on(api.ErrRange, "Floor -1", func(e *api.Entry) { e.Latch.Call.Floor = -1 }),
		on(api.ErrRange, "Floor MaxFloors", func(e *api.Entry) { e.Latch.Call.Floor = mostFloors }),
		on(api.ErrRange, "no Dir", func(e *api.Entry) { e.Latch.Call.Dir = api.None }),
		on(api.ErrRange, "Dir 2", func(e *api.Entry) { e.Latch.Call.Dir = 2 }),
		on(api.ErrRange, "Dir -2", func(e *api.Entry) { e.Latch.Call.Dir = -2 }),
		on(api.ErrRange, "Gen 0", func(e *api.Entry) { e.Latch.Gen = 0 }),
		on(api.ErrRange, "Gen 2^31", func(e *api.Entry) { e.Latch.Gen = mostGen + 1 }),
		on(api.ErrRange, "Award of one that is no Member", func(e *api.Entry) { e.Award = 2 }),
		on(api.ErrRange, "Award 0", func(e *api.Entry) { e.Award = 0 }),
		on(api.ErrRange, "Award -2", func(e *api.Entry) { e.Award = -2 }),
		on(api.ErrRange, "Award MaxCars", func(e *api.Entry) { e.Award = mostCars }),
	}
	if i > 0 {
		out = append(out,
			of(api.ErrTwice, string(rune('0'+i))+": twice the same", func(f *api.Frame) {
				f.Ring.Entries[i].Latch.Call = f.Ring.Entries[i-1].Latch.Call
			}),
			on(api.ErrTwice, "a Floor that falls", func(e *api.Entry) { e.Latch.Call.Floor = 2 }))
	}
	bid := func(car, ticks int) func(e *api.Entry) {
		return func(e *api.Entry) { e.Bids = []api.Bid{{Car: 1, Ticks: 5}, {Car: car, Ticks: ticks}} }
	}
	return append(out,
		on(api.ErrMany, "Bids too many", func(e *api.Entry) { e.Bids = make([]api.Bid, 5) }),
		on(api.ErrRange, "a Bid of one that is no Member", bid(5, 0)),
		on(api.ErrRange, "a Bid of MaxCars", bid(mostCars, 0)),
		on(api.ErrRange, "a Bid of -1", bid(-1, 0)),
		on(api.ErrRange, "Ticks -1", bid(6, -1)),
		on(api.ErrRange, "Ticks above", bid(6, mostTicks+1)),
		on(api.ErrTwice, "a Bid twice", bid(1, 5)),
		on(api.ErrTwice, "a Bid twice, other Ticks", bid(1, 6)),
		on(api.ErrTwice, "Bids that fall", func(e *api.Entry) { e.Bids = []api.Bid{{Car: 9}, {Car: 6}} }))
}

// checkFaults makes each fault of base alone, and each two at once: the one that the chapter names first is answered.
func checkFaults(t *testing.T, base func() api.Frame, faults []fault) {
	t.Helper()
	for i, first := range faults {
		f := base()
		first.do(&f)
		checkValid(t, first.name, f, first.want)
		for _, second := range faults[i+1:] {
			f := base()
			second.do(&f)
			first.do(&f)
			checkValid(t, first.name+", and "+second.name, f, first.want)
		}
	}
}

// P5.1

func TestValidOfSamples(t *testing.T) {
	for i, f := range samples() {
		checkValid(t, "sample "+string(rune('0'+i)), f, nil)
	}
}

func TestFaultsOfABeat(t *testing.T) {
	checkFaults(t, beat, append(headFaults(), beatFaults()...))
	checkFaults(t, func() api.Frame { return api.Frame{Kind: api.Beat} }, append(headFaults(), beatFaults()...))
}

func TestFaultsOfAToken(t *testing.T) {
	checkFaults(t, token, append(headFaults(), tokenFaults()...))
}

func TestValidAtTheEnds(t *testing.T) {
	for _, x := range []struct {
		name      string
		base      func() api.Frame
		low, high int64
		set       func(f *api.Frame, n int64)
	}{
		{"Kind", func() api.Frame { return api.Frame{} }, 1, 1, func(f *api.Frame, n int64) { f.Kind = int(n) }},
		{"Kind of a token", token, 2, 2, func(f *api.Frame, n int64) { f.Kind = int(n) }},
		{"From of a beat", beat, 0, 15, func(f *api.Frame, n int64) { f.From = int(n) }},
		{"To of a beat", beat, 0, 15, func(f *api.Frame, n int64) { f.To = int(n) }},
		{"Life of a beat", beat, 0, 1<<48 - 1, func(f *api.Frame, n int64) { f.Life = n }},
		{"Seen of a beat", beat, 0, 1<<48 - 1, func(f *api.Frame, n int64) { f.Seen = n }},
		{"Hop of a beat", beat, 0, 0, func(f *api.Frame, n int64) { f.Ring.Hop = n }},
		{"Count of a beat", beat, 0, 0, func(f *api.Frame, n int64) { f.Ring.Epoch.Count = n }},
		{"Founder of a beat", beat, 0, 0, func(f *api.Frame, n int64) { f.Ring.Epoch.Founder = int(n) }},
		{"From of a token", token, 0, 15, func(f *api.Frame, n int64) { f.From = int(n) }},
		{"To of a token", token, 0, 15, func(f *api.Frame, n int64) { f.To = int(n) }},
		{"Life of a token", token, 0, 0, func(f *api.Frame, n int64) { f.Life = n }},
		{"Seen of a token", token, 0, 0, func(f *api.Frame, n int64) { f.Seen = n }},
		{"Count", token, 1, 1<<32 - 1, func(f *api.Frame, n int64) { f.Ring.Epoch.Count = n }},
		{"Founder", token, 0, 15, func(f *api.Frame, n int64) { f.Ring.Epoch.Founder = int(n) }},
		{"Hop", token, 0, 1 << 40, func(f *api.Frame, n int64) { f.Ring.Hop = n }},
		{"the one Member", least, 0, 15, func(f *api.Frame, n int64) { f.Ring.Members[0] = int(n) }},
		{"Floor", tokenOfOne, 0, 63, func(f *api.Frame, n int64) { f.Ring.Entries[0].Latch.Call.Floor = int(n) }},
		{"Gen", tokenOfOne, 1, 1<<31 - 1, func(f *api.Frame, n int64) { f.Ring.Entries[0].Latch.Gen = int(n) }},
		{"Ticks", tokenOfOne, 0, 1 << 20, func(f *api.Frame, n int64) { f.Ring.Entries[0].Bids[0].Ticks = int(n) }},
	} {
		for _, n := range []int64{math.MinInt64, -1 << 32, x.low - 1, x.low, x.low + (x.high-x.low)/2, x.high, x.high + 1, 1 << 60, math.MaxInt64} {
			f := x.base()
			x.set(&f, n)
			if err := frame.Valid(f); (err == nil) != (n >= x.low && n <= x.high) {
				t.Errorf("%s: %d: %v", x.name, n, err)
			}
		}
	}
}

// tokenOfOne is a token with one entry, that may be at any floor.
func tokenOfOne() api.Frame {
	f := least()
	f.Ring.Entries = []api.Entry{{Latch: latch(4, api.Up, 1), Bids: []api.Bid{{}}, Award: -1}}
	return f
}

func TestValidDir(t *testing.T) {
	for dir := -300; dir <= 300; dir++ {
		f := tokenOfOne()
		f.Ring.Entries[0].Latch.Call.Dir = dir
		if err := frame.Valid(f); (err == nil) != (dir == 1 || dir == -1) || err != nil && err != api.ErrRange {
			t.Errorf("Dir %d: %v", dir, err)
		}
	}
}

// A frame knows no house: calls that lead out of one are let by.
func TestValidOfCallsThatLeadOut(t *testing.T) {
	f := tokenOfOne()
	f.Ring.Entries[0].Latch = latch(0, api.Down, 1)
	checkValid(t, "Down at 0", f, nil)
	f.Ring.Entries[0].Latch = latch(mostFloors-1, api.Up, 1)
	checkValid(t, "Up at the last floor", f, nil)
}

func TestValidAwardAndBidOfEachCar(t *testing.T) {
	member := map[int]int{1: 1, 4: 1, 6: 1, 9: 1}
	for car := -20; car <= 40; car++ {
		want := error(api.ErrRange)
		if member[car] == 1 {
			want = nil
		}
		f := token()
		f.Ring.Entries[1].Bids = []api.Bid{{Car: car, Ticks: 3}}
		checkValid(t, "a Bid of each car", f, want)
		if car == -1 {
			want = nil
		}
		f = token()
		f.Ring.Entries[1].Award = car
		checkValid(t, "an Award to each car", f, want)
	}
}

func TestValidMembers(t *testing.T) {
	for _, x := range []struct {
		members []int
		want    error
	}{
		{nil, api.ErrMany},
		{[]int{}, api.ErrMany},
		{[]int{0}, nil},
		{[]int{15}, nil},
		{[]int{-1}, api.ErrRange},
		{[]int{16}, api.ErrRange},
		{[]int{0, 15}, nil},
		{[]int{15, 0}, api.ErrTwice},
		{[]int{7, 7}, api.ErrTwice},
		{[]int{16, 16}, api.ErrRange},
		{[]int{7, 7, 16}, api.ErrRange},
		{[]int{7, 3, -1}, api.ErrRange},
		{[]int{1, 2, 3, 3}, api.ErrTwice},
		{[]int{0, 2, 1}, api.ErrTwice},
		{greatest().Ring.Members, nil},
		{append(greatest().Ring.Members, 15), api.ErrMany},
		{append(greatest().Ring.Members, 16), api.ErrMany},
		{append(greatest().Ring.Members[:15], 14), api.ErrTwice},
		{make([]int, mostCars), api.ErrTwice},
		{make([]int, mostCars+1), api.ErrMany},
		{make([]int, 100000), api.ErrMany},
	} {
		f := least()
		f.Ring.Members = x.members
		checkValid(t, "Members", f, x.want)
	}
}

func TestValidHowManyEntries(t *testing.T) {
	f := greatest()
	f.Ring.Entries = f.Ring.Entries[:mostEntries-1]
	checkValid(t, "one less than 2 MaxFloors", f, nil)
	f = greatest()
	f.Ring.Entries = append(f.Ring.Entries, f.Ring.Entries[0])
	checkValid(t, "one more than 2 MaxFloors", f, api.ErrMany)
	f.Ring.Members[0] = -1
	checkValid(t, "one more than 2 MaxFloors, ahead of the Members", f, api.ErrMany)
	f = least()
	f.Ring.Entries = []api.Entry{}
	checkValid(t, "empty Entries", f, nil)
}

// calls are some calls in their order.
func calls() []api.Call {
	return []api.Call{{Floor: 0, Dir: -1}, {Floor: 0, Dir: 1}, {Floor: 1, Dir: -1}, {Floor: 2, Dir: 1}, {Floor: 9, Dir: -1}, {Floor: 9, Dir: 1}, {Floor: 10, Dir: -1}, {Floor: 63, Dir: -1}, {Floor: 63, Dir: 1}}
}

func TestValidOrderOfEntries(t *testing.T) {
	for i, a := range calls() {
		for k, b := range calls() {
			f := least()
			f.Ring.Entries = []api.Entry{{Latch: api.Latch{Call: a, Gen: 7}, Award: -1}, {Latch: api.Latch{Call: b, Gen: 3}, Award: 0}}
			if i < k {
				checkValid(t, "two in order", f, nil)
			} else {
				checkValid(t, "two out of order", f, api.ErrTwice)
			}
		}
	}
}

func TestValidHowManyBids(t *testing.T) {
	for count := 1; count <= mostCars; count++ {
		f := greatest()
		f.Ring.Members = f.Ring.Members[:count]
		e := f.Ring.Entries[0]
		e.Award = count - 1
		for bids := 0; bids <= count; bids++ {
			e.Bids = greatest().Ring.Entries[0].Bids[:bids]
			f.Ring.Entries = []api.Entry{e}
			checkValid(t, "as many Bids as there are Members", f, nil)
		}
		e.Bids = append(e.Bids, e.Bids[0])
		f.Ring.Entries = []api.Entry{e}
		checkValid(t, "a Bid more than there are Members", f, api.ErrMany)
	}
}

func TestValidOfABeatWithEmptyLists(t *testing.T) {
	f := beat()
	f.Ring.Members, f.Ring.Entries = []int{}, []api.Entry{}
	checkValid(t, "empty lists", f, nil)
	f = withRoom(beat(), 3)
	checkValid(t, "room behind empty lists", f, nil)
}

func TestValidReadsAndWritesNothingBehind(t *testing.T) {
	for _, sample := range samples() {
		for _, x := range []int{-1, 3} {
			f := withRoom(sample, x)
			keep := whole(withRoom(sample, x))
			checkValid(t, "room behind the lists", f, nil)
			if !equal(f, sample) || !equal(whole(f), keep) {
				t.Error("Valid, or Bytes, wrote into what was handed in")
			}
		}
	}
}
