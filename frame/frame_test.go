package frame_test

import (
	"math"
	"reflect"
	"slices"
	"testing"

	"paternoster/api"
	"paternoster/frame"
)

// The limits, told anew.
const (
	mostCars    = 16
	mostFloors  = 64
	mostEntries = 128
	mostKept    = 281474976710655
	mostCount   = 4294967295
	mostHop     = 1099511627776
	mostGen     = 2147483647
	mostTicks   = 1048576
)

// beat is an ordinary beat.
func beat() api.Frame {
	return api.Frame{Kind: api.Beat, From: 3, To: 12, Life: 5, Seen: 70, Out: true}
}

// token is an ordinary token.
func token() api.Frame {
	return api.Frame{Kind: api.Token, From: 1, To: 4, Ring: api.Ring{
		Epoch:   api.Epoch{Count: 9, Founder: 1},
		Hop:     70,
		Members: []int{1, 4, 6, 9},
		Entries: []api.Entry{
			{Latch: latch(3, api.Down, 2), Bids: []api.Bid{{Car: 1, Ticks: 5}, {Car: 6}}, Award: -1},
			{Latch: latch(3, api.Up, 1), Award: 4},
			{Latch: latch(5, api.Up, 7), Bids: []api.Bid{{Car: 1, Ticks: 9}, {Car: 4, Ticks: 900}, {Car: 6, Ticks: 9}, {Car: 9, Ticks: 8}}, Award: 9},
		},
	}}
}

// latch is a call that is latched.
func latch(floor, dir, gen int) api.Latch {
	return api.Latch{Call: api.Call{Floor: floor, Dir: dir}, Gen: gen}
}

// least is a token with nothing that needn't be there.
func least() api.Frame {
	return api.Frame{Kind: api.Token, Ring: api.Ring{Epoch: api.Epoch{Count: 1}, Members: []int{0}}}
}

// greatest is a token with all that there may be.
func greatest() api.Frame {
	f := api.Frame{Kind: api.Token, From: mostCars - 1, To: mostCars - 1}
	f.Ring = api.Ring{Epoch: api.Epoch{Count: mostCount, Founder: mostCars - 1}, Hop: mostHop}
	for car := range mostCars {
		f.Ring.Members = append(f.Ring.Members, car)
	}
	for i := range mostEntries {
		f.Ring.Entries = append(f.Ring.Entries, api.Entry{Latch: latch(i/2, i%2*2-1, mostGen), Award: mostCars - 1})
		for car := range mostCars {
			f.Ring.Entries[i].Bids = append(f.Ring.Entries[i].Bids, api.Bid{Car: car, Ticks: mostTicks})
		}
	}
	return f
}

// samples are valid frames of all kinds, no two the same.
func samples() []api.Frame {
	return []api.Frame{
		{Kind: api.Beat},
		{Kind: api.Beat, Out: true},
		{Kind: api.Beat, From: mostCars - 1, To: mostCars - 1, Life: mostKept, Seen: mostKept, Out: true},
		beat(), token(), least(), greatest(),
	}
}

// deep is f in memory of its own, no list and an empty one both as nil.
func deep(f api.Frame) api.Frame {
	f.Ring.Members = append([]int(nil), f.Ring.Members...)
	f.Ring.Entries = append([]api.Entry(nil), f.Ring.Entries...)
	for i := range f.Ring.Entries {
		f.Ring.Entries[i].Bids = append([]api.Bid(nil), f.Ring.Entries[i].Bids...)
	}
	return f
}

// equal is whether a and b are the same, told by the library.
func equal(a, b api.Frame) bool {
	return reflect.DeepEqual(deep(a), deep(b))
}

// spoil writes into all lists of f, their spare room too.
func spoil(f api.Frame) {
	for i := range f.Ring.Entries {
		fill(f.Ring.Entries[i].Bids, api.Bid{Car: -7, Ticks: -7})
	}
	fill(f.Ring.Entries, api.Entry{Award: -7})
	fill(f.Ring.Members, -7)
}

// fill writes x all over list, its spare room too.
func fill[T any](list []T, x T) {
	list = list[:cap(list)]
	for i := range list {
		list[i] = x
	}
}

// roomy is list with room behind its end, filled with x.
func roomy[T any](list []T, x T) []T {
	out := append(slices.Clone(list), make([]T, 5)...)
	out = out[: len(list) : len(list)+5]
	for i := range 5 {
		out[:cap(out)][len(list)+i] = x
	}
	return out
}

// withRoom is f whose lists have room behind their ends, and in that other things than f has.
func withRoom(f api.Frame, x int) api.Frame {
	f = deep(f)
	for i := range f.Ring.Entries {
		f.Ring.Entries[i].Bids = roomy(f.Ring.Entries[i].Bids, api.Bid{Car: x, Ticks: x})
	}
	f.Ring.Entries = roomy(f.Ring.Entries, api.Entry{Latch: latch(x, x, x), Award: x})
	f.Ring.Members = roomy(f.Ring.Members, x)
	return f
}

// whole is f with its lists to the end of their memory.
func whole(f api.Frame) api.Frame {
	f = api.Frame{Ring: f.Ring}
	f.Ring.Members = f.Ring.Members[:cap(f.Ring.Members)]
	f.Ring.Entries = append([]api.Entry(nil), f.Ring.Entries[:cap(f.Ring.Entries)]...)
	for i := range f.Ring.Entries {
		f.Ring.Entries[i].Bids = f.Ring.Entries[i].Bids[:cap(f.Ring.Entries[i].Bids)]
	}
	return f
}

// An edit changes one field of a frame.
type edit struct {
	name string
	do   func(f *api.Frame)
}

// edits change each field that there is of token, to others that may be, and to some that may not.
func edits() []edit {
	return []edit{
		{"Kind", func(f *api.Frame) { f.Kind = api.Beat }},
		{"Kind 0", func(f *api.Frame) { f.Kind = 0 }},
		{"From", func(f *api.Frame) { f.From++ }},
		{"From far", func(f *api.Frame) { f.From = math.MaxInt }},
		{"To", func(f *api.Frame) { f.To-- }},
		{"To far", func(f *api.Frame) { f.To = math.MinInt }},
		{"Life", func(f *api.Frame) { f.Life++ }},
		{"Life by 2^32", func(f *api.Frame) { f.Life += 1 << 32 }},
		{"Seen", func(f *api.Frame) { f.Seen++ }},
		{"Seen by 2^32", func(f *api.Frame) { f.Seen += 1 << 32 }},
		{"Out", func(f *api.Frame) { f.Out = !f.Out }},
		{"Count", func(f *api.Frame) { f.Ring.Epoch.Count++ }},
		{"Founder", func(f *api.Frame) { f.Ring.Epoch.Founder++ }},
		{"Hop", func(f *api.Frame) { f.Ring.Hop++ }},
		{"Hop by 2^32", func(f *api.Frame) { f.Ring.Hop += 1 << 32 }},
		{"no Members", func(f *api.Frame) { f.Ring.Members = nil }},
		{"first Member", func(f *api.Frame) { f.Ring.Members[0] = 0 }},
		{"last Member", func(f *api.Frame) { f.Ring.Members[3] = 10 }},
		{"a Member less", func(f *api.Frame) { f.Ring.Members = f.Ring.Members[:3] }},
		{"a Member less ahead", func(f *api.Frame) { f.Ring.Members = f.Ring.Members[1:] }},
		{"a Member more", func(f *api.Frame) { f.Ring.Members = append(f.Ring.Members, 11) }},
		{"Members turned round", func(f *api.Frame) { slices.Reverse(f.Ring.Members) }},
		{"no Entries", func(f *api.Frame) { f.Ring.Entries = nil }},
		{"an Entry less", func(f *api.Frame) { f.Ring.Entries = f.Ring.Entries[:2] }},
		{"an Entry less ahead", func(f *api.Frame) { f.Ring.Entries = f.Ring.Entries[1:] }},
		{"an Entry more", func(f *api.Frame) {
			f.Ring.Entries = append(f.Ring.Entries, api.Entry{Latch: latch(8, api.Up, 1), Award: -1})
		}},
		{"Entries turned round", func(f *api.Frame) { slices.Reverse(f.Ring.Entries) }},
		{"first Floor", func(f *api.Frame) { f.Ring.Entries[0].Latch.Call.Floor = 2 }},
		{"last Floor", func(f *api.Frame) { f.Ring.Entries[2].Latch.Call.Floor = 6 }},
		{"Dir", func(f *api.Frame) { f.Ring.Entries[2].Latch.Call.Dir = api.Down }},
		{"Gen", func(f *api.Frame) { f.Ring.Entries[1].Latch.Gen++ }},
		{"Award", func(f *api.Frame) { f.Ring.Entries[0].Award = 1 }},
		{"no Award", func(f *api.Frame) { f.Ring.Entries[2].Award = -1 }},
		{"no Bids", func(f *api.Frame) { f.Ring.Entries[0].Bids = nil }},
		{"a Bid less", func(f *api.Frame) { f.Ring.Entries[0].Bids = f.Ring.Entries[0].Bids[:1] }},
		{"a Bid less ahead", func(f *api.Frame) { f.Ring.Entries[0].Bids = f.Ring.Entries[0].Bids[1:] }},
		{"a Bid where none was", func(f *api.Frame) { f.Ring.Entries[1].Bids = []api.Bid{{Car: 1, Ticks: 5}} }},
		{"a Bid's Car", func(f *api.Frame) { f.Ring.Entries[0].Bids[1].Car = 4 }},
		{"a Bid's Ticks", func(f *api.Frame) { f.Ring.Entries[0].Bids[1].Ticks++ }},
		{"the last Bid's Ticks", func(f *api.Frame) { f.Ring.Entries[2].Bids[3].Ticks-- }},
	}
}

// P5.3

func TestSameInAllFields(t *testing.T) {
	for _, x := range edits() {
		f := token()
		x.do(&f)
		if frame.Same(f, token()) || frame.Same(token(), f) {
			t.Errorf("%s: Same, though not in all fields", x.name)
		}
		g := token()
		x.do(&g)
		if !frame.Same(f, g) {
			t.Errorf("%s: not Same, though in all fields", x.name)
		}
	}
}

func TestSameOfSamples(t *testing.T) {
	for i, a := range samples() {
		for k, b := range samples() {
			if frame.Same(a, b) != (i == k) {
				t.Errorf("Same of samples %d and %d is %v", i, k, i != k)
			}
		}
	}
}

func TestSameOfWhatIsNotValid(t *testing.T) {
	odd := func() api.Frame {
		return api.Frame{Kind: -4, From: -1, To: math.MaxInt, Life: -3, Seen: math.MinInt64, Out: true, Ring: api.Ring{Hop: -1, Members: []int{5, 5, -1}, Entries: []api.Entry{{}, {Bids: []api.Bid{{}, {}}}}}}
	}
	if !frame.Same(odd(), odd()) || !frame.Same(frame.Clone(odd()), odd()) {
		t.Error("a frame that is not Valid is not Same")
	}
	other := odd()
	other.Ring.Entries[1].Bids[1].Ticks = 1
	if frame.Same(odd(), other) || frame.Same(odd(), api.Frame{}) {
		t.Error("frames that are not Valid are Same, though not in all fields")
	}
	full := beat() // a beat with a ring is not Valid, and still one of another ring isn't the same
	full.Ring = token().Ring
	if frame.Same(full, beat()) || frame.Same(beat(), full) || !frame.Same(full, frame.Clone(full)) {
		t.Error("the Ring of a beat counts for nothing")
	}
}

func TestSameOfNilAndEmpty(t *testing.T) {
	a, b := token(), token()
	a.Ring.Entries[1].Bids, b.Ring.Entries[1].Bids = nil, []api.Bid{}
	if !frame.Same(a, b) || !frame.Same(b, a) {
		t.Error("nil and empty Bids are not Same")
	}
	a, b = least(), least()
	b.Ring.Entries = []api.Entry{}
	if !frame.Same(a, b) || !frame.Same(b, a) {
		t.Error("nil and empty Entries are not Same")
	}
	a, b = beat(), beat()
	b.Ring.Members = []int{}
	if !frame.Same(a, b) || !frame.Same(b, a) {
		t.Error("nil and empty Members are not Same")
	}
}

func TestSameOfRoomBehind(t *testing.T) {
	for i, f := range samples() {
		a, b := withRoom(f, 2), withRoom(f, 3)
		if !frame.Same(a, b) || !frame.Same(a, f) || !frame.Same(f, a) {
			t.Errorf("sample %d: what lies behind a list's length is read", i)
		}
	}
}

func TestClone(t *testing.T) {
	for i, f := range samples() {
		if g := frame.Clone(f); !equal(f, g) || !frame.Same(f, g) {
			t.Errorf("the Clone of sample %d is another one: %v", i, g)
		}
	}
	for _, x := range edits() {
		f := token()
		x.do(&f)
		if g := frame.Clone(f); !equal(f, g) || !frame.Same(f, g) {
			t.Errorf("%s: the Clone is another one: %v", x.name, g)
		}
	}
	if g := frame.Clone(api.Frame{}); !equal(g, api.Frame{}) {
		t.Errorf("the Clone of the zero value is %v", g)
	}
}

func TestCloneIsNewMemory(t *testing.T) {
	for i, sample := range samples() {
		f := withRoom(sample, 3)
		g, h := frame.Clone(f), frame.Clone(f)
		spoil(g)
		if !equal(f, sample) || !equal(h, sample) || !equal(whole(f), whole(withRoom(sample, 3))) {
			t.Errorf("sample %d: what is written into a Clone is seen", i)
		}
		spoil(f)
		if !equal(h, sample) {
			t.Errorf("sample %d: what is written into a frame is seen in its Clone", i)
		}
	}
}

func TestCloneOfAClone(t *testing.T) {
	f := frame.Clone(token())
	g := frame.Clone(f)
	f.Ring.Entries[0].Bids[0].Ticks = 1000
	f.Ring.Entries[0].Award = 6
	f.Ring.Members[0] = 0
	if !equal(g, token()) {
		t.Errorf("what is written into a Clone is seen in its own: %v", g)
	}
	g.Ring.Entries[2].Bids[3].Car = 0
	if f.Ring.Entries[2].Bids[3].Car != 9 {
		t.Error("what is written into a Clone is seen in what it was made of")
	}
}

// checkApart writes behind each list of f, and holds all others against sample.
func checkApart(t *testing.T, what string, f, sample api.Frame) {
	t.Helper()
	_ = append(f.Ring.Members, -7)
	_ = append(f.Ring.Entries, api.Entry{Award: -7})
	for i := range f.Ring.Entries {
		bids := f.Ring.Entries[i].Bids
		fill(bids[len(bids):], api.Bid{Car: -7, Ticks: -7})
	}
	if !equal(f, sample) {
		t.Errorf("%s: lists of one frame share memory: %v", what, f)
	}
}

func TestCloneListsStandApart(t *testing.T) {
	for _, sample := range samples() {
		checkApart(t, "Clone", frame.Clone(sample), sample)
	}
}
