package ledger_test

import (
	"fmt"
	"math"
	"slices"
	"testing"

	"paternoster/api"
	"paternoster/frame"
	"paternoster/ledger"
)

// The most entries that a ring may have.
const most = 2 * api.MaxFloors

func call(floor, dir int) api.Call {
	return api.Call{Floor: floor, Dir: dir}
}

func latch(floor, dir, gen int) api.Latch {
	return api.Latch{Call: call(floor, dir), Gen: gen}
}

// of is a bid of a car, of so many ticks.
func of(car, ticks int) api.Bid {
	return api.Bid{Car: car, Ticks: ticks}
}

// open is an entry that is awarded to nobody yet.
func open(l api.Latch, bids ...api.Bid) api.Entry {
	return api.Entry{Latch: l, Bids: bids, Award: -1}
}

// awarded is an entry that is awarded to a car.
func awarded(l api.Latch, car int, bids ...api.Bid) api.Entry {
	return api.Entry{Latch: l, Bids: bids, Award: car}
}

func ring(members []int, entries ...api.Entry) api.Ring {
	return api.Ring{Epoch: api.Epoch{Count: 7, Founder: 3}, Hop: 12, Members: members, Entries: entries}
}

// with is r with other entries.
func with(r api.Ring, entries ...api.Entry) api.Ring {
	r.Entries = entries
	return r
}

// copied is a ring as r is, that shares no memory with it.
func copied(r api.Ring) api.Ring {
	r.Members = slices.Clone(r.Members)
	r.Entries = slices.Clone(r.Entries)
	for i := range r.Entries {
		r.Entries[i].Bids = slices.Clone(r.Entries[i].Bids)
	}
	return r
}

// isValid is whether r is one that a token may have.
func isValid(r api.Ring) bool {
	return frame.Valid(api.Frame{Kind: api.Token, Ring: r}) == nil
}

// beyond are numbers of all kinds, rising.
func beyond() []int {
	return []int{
		math.MinInt, math.MinInt + 1, -1 << 32, -1 << 31, -17, -2, -1, 0, 1, 2, 9, 10, 15, 16, 17, 63, 64, 65,
		255, 256, 1 << 20, 1<<31 - 1, 1 << 31, 1 << 32, 1<<32 + 1, 1<<32 + 4, math.MaxInt - 1, math.MaxInt,
	}
}

// allCalls are the calls of the greatest house, in the calls' order, and those that lead out of it.
func allCalls() []api.Call {
	var l []api.Call
	for floor := range api.MaxFloors {
		l = append(l, call(floor, api.Down), call(floor, api.Up))
	}
	return l
}

// noCalls are some that are none, each at another place in the calls' order.
func noCalls() []api.Call {
	return []api.Call{
		call(math.MinInt, api.Up), call(-1, api.Down), call(-1, api.Up), call(0, -2), call(3, api.None), call(3, 2), call(3, math.MaxInt), call(5, math.MinInt),
		call(63, 2), call(64, api.Down), call(64, api.Up), call(1<<32+3, api.Up), call(math.MaxInt, api.Down),
	}
}

// full is a ring with an entry for each call but those.
func full(members []int, but ...api.Call) api.Ring {
	r := ring(members)
	for i, c := range allCalls() {
		if !slices.Contains(but, c) {
			r.Entries = append(r.Entries, open(api.Latch{Call: c, Gen: i + 1}))
		}
	}
	return r
}

// plainRing has entries of each kind: nobody has bid, one has, all but one have, all have, awarded.
func plainRing() api.Ring {
	return ring([]int{1, 4, 6},
		open(latch(0, api.Up, 3)),
		open(latch(2, api.Down, 1), of(4, 9)),
		open(latch(2, api.Up, 2), of(1, 3), of(6, 3)),
		awarded(latch(5, api.Down, 7), 4, of(1, 8), of(4, 2), of(6, 5)),
		open(latch(5, api.Up, 1), of(1, 8), of(4, 2), of(6, 2)),
		awarded(latch(9, api.Up, 4), 6, of(1, 5), of(4, 5), of(6, 0)),
		open(latch(63, api.Down, 1<<31-1), of(1, 0), of(4, 1<<20), of(6, 1)),
	)
}

// rings are such as a token may have.
func rings() []api.Ring {
	all := make([]int, api.MaxCars)
	for i := range all {
		all[i] = i
	}
	last := plainRing()
	last.Hop = api.MaxHop
	awards := full([]int{2, 3})
	for i := range awards.Entries {
		awards.Entries[i].Award = 2 + i%2
	}
	return []api.Ring{
		ring([]int{0}),
		ring([]int{1, 4}),
		ring(all),
		ring([]int{5}, open(latch(3, api.Up, 1), of(5, 0))),
		ring([]int{5}, awarded(latch(3, api.Up, 1), 5, of(5, 0))),
		ring([]int{0, 1}, open(latch(3, api.Up, 1)), open(latch(4, api.Down, 1), of(0, 7), of(1, 7))),
		plainRing(),
		last,
		full([]int{1, 4}),
		full([]int{1, 4}, call(5, api.Up)),
		awards,
	}
}

// lists are latches that are lit: of calls that have entries in some of rings, of other Gens, of others, out of order, several of a call, of none.
func lists() [][]api.Latch {
	return [][]api.Latch{
		nil,
		{},
		{latch(3, api.Up, 1)},
		{latch(5, api.Up, 1), latch(5, api.Down, 8), latch(0, api.Up, 3), latch(1, api.Up, 1)},
		{latch(9, api.Up, 4), latch(8, api.Down, 1), latch(8, api.Down, 2), latch(2, api.Up, 2), latch(2, api.Up, 3)},
		{latch(-1, api.Up, 0), latch(64, api.Down, -5), latch(3, api.None, 1), latch(math.MaxInt, math.MinInt, math.MaxInt)},
	}
}

func TestRingsMayBe(t *testing.T) {
	for _, r := range rings() {
		if !isValid(r) {
			t.Errorf("no ring of a token: %v", r)
		}
	}
}

// Memory that is handed in

// wrap is l with canaries ahead of it and behind it in its memory, all of it told by the second answer.
func wrap[T any](l []T, canary T) (part, all []T) {
	all = slices.Concat([]T{canary, canary}, l, []T{canary, canary, canary})
	return all[2 : 2+len(l)], all
}

// given is what was handed in, with all of the memory that it stands in.
type given struct {
	ring    api.Ring
	lit     []api.Latch
	members []int
	entries []api.Entry
	bids    [][]api.Bid
	latches []api.Latch
}

// give wraps a ring as r and a list as lit.
func give(r api.Ring, lit []api.Latch) given {
	g := given{ring: copied(r)}
	// The canaries are such that one who reads them takes them for what belongs there.
	g.ring.Members, g.members = wrap(g.ring.Members, 2)
	g.ring.Entries, g.entries = wrap(g.ring.Entries, open(latch(8, api.Down, 2)))
	for i, e := range g.ring.Entries {
		part, all := wrap(e.Bids, of(e.Award, 0))
		g.ring.Entries[i].Bids = part
		g.bids = append(g.bids, all)
	}
	g.lit, g.latches = wrap(lit, latch(8, api.Down, 1))
	return g
}

func (g given) memory() string {
	return fmt.Sprint(g.ring, g.lit, g.members, g.entries, g.bids, g.latches)
}

// spoil writes into all that was handed in.
func (g given) spoil() {
	spoilList(g.members, 13)
	for _, b := range g.bids {
		spoilList(b, of(13, 13))
	}
	spoilList(g.entries, awarded(latch(13, 13, 13), 13))
	spoilList(g.latches, latch(13, 13, 13))
}

// spoilList writes into l, behind its length too, and appends to it.
func spoilList[T any](l []T, x T) {
	_ = append(l, x)
	l = l[:cap(l)]
	for i := range l {
		l[i] = x
	}
}

// answer is what a call answers, of all kinds.
type answer struct {
	ring    api.Ring
	is      bool
	entries []api.Entry
	latches []api.Latch
	calls   []api.Call
}

// spoil writes into all of the lists of a.
func (a answer) spoil() {
	spoilEntries(a.ring.Entries)
	spoilEntries(a.entries)
	spoilList(a.ring.Members, 14)
	spoilList(a.latches, latch(14, 14, 14))
	spoilList(a.calls, call(14, 14))
}

func spoilEntries(l []api.Entry) {
	for _, e := range l {
		spoilList(e.Bids, of(14, 14))
	}
	spoilList(l, awarded(latch(14, 14, 14), 14, of(14, 14)))
}

// deed is a call of the package, of a ring and of what is lit.
type deed struct {
	name    string
	becomes bool // whether the ring that it answers is what the one handed in became
	do      func(r api.Ring, lit []api.Latch) answer
}

func bidding(b api.Bid, c api.Call) deed {
	return deed{fmt.Sprintf("Bid %v %v", b, c), true, func(r api.Ring, lit []api.Latch) answer {
		x, is := ledger.Bid(r, b, c)
		return answer{ring: x, is: is}
	}}
}

// deeds are all calls that answer lists; those that answer false too.
func deeds() []deed {
	l := []deed{
		{"New", false, func(r api.Ring, lit []api.Latch) answer { return answer{ring: ledger.New(r.Epoch, r.Members...)} }},
		{"Purge", true, func(r api.Ring, lit []api.Latch) answer { return answer{ring: ledger.Purge(r, lit)} }},
		{"Add", true, func(r api.Ring, lit []api.Latch) answer { return answer{ring: ledger.Add(r, lit)} }},
		{"Award", true, func(r api.Ring, lit []api.Latch) answer {
			x, entries := ledger.Award(r)
			return answer{ring: x, entries: entries}
		}},
		{"Pass", true, func(r api.Ring, lit []api.Latch) answer {
			x, is := ledger.Pass(r)
			return answer{ring: x, is: is}
		}},
		bidding(of(1, 5), call(0, api.Up)),
		bidding(of(1, 5), call(2, api.Down)),
		bidding(of(6, 5), call(2, api.Down)),
		bidding(of(4, 5), call(2, api.Up)),
		bidding(of(1, 5), call(2, api.Up)),
		bidding(of(2, 5), call(2, api.Up)),
		bidding(of(1, -1), call(0, api.Up)),
		bidding(of(4, 5), call(5, api.Down)),
		bidding(of(4, 5), call(7, api.Down)),
		bidding(of(0, 1<<20), call(3, api.Up)),
	}
	for _, car := range []int{-1, 0, 1, 2, 4, 5, 6} {
		l = append(l,
			deed{fmt.Sprint("Wants ", car), false, func(r api.Ring, lit []api.Latch) answer { return answer{calls: ledger.Wants(r, car)} }},
			deed{fmt.Sprint("Mine ", car), false, func(r api.Ring, lit []api.Latch) answer { return answer{latches: ledger.Mine(r, car)} }},
		)
	}
	return l
}

// eachDeed hands on each of deeds, with each of rings and of lists.
func eachDeed(do func(d deed, r api.Ring, lit []api.Latch)) {
	for _, d := range deeds() {
		for _, r := range rings() {
			for _, lit := range lists() {
				do(d, r, lit)
			}
		}
	}
}

// TestNothingHandedInChanges has each call asked: it reads and writes nothing behind a length, and changes nothing.
func TestNothingHandedInChanges(t *testing.T) {
	eachDeed(func(d deed, r api.Ring, lit []api.Latch) {
		g := give(r, lit)
		was := g.memory()
		got := fmt.Sprint(d.do(g.ring, g.lit))
		if now := g.memory(); now != was {
			t.Fatalf("%s of %v and %v: what was handed in became %s", d.name, r, lit, now)
		}
		if want := fmt.Sprint(d.do(copied(r), slices.Clone(lit))); got != want {
			t.Fatalf("%s of %v and %v is %s, not %s", d.name, r, lit, got, want)
		}
	})
}

// TestAnswersAreNewMemory writes into an answer: neither what was handed in shows it, nor another answer.
func TestAnswersAreNewMemory(t *testing.T) {
	eachDeed(func(d deed, r api.Ring, lit []api.Latch) {
		g := give(r, lit)
		was := g.memory()
		one, other := d.do(g.ring, g.lit), d.do(g.ring, g.lit)
		want := fmt.Sprint(other)
		one.spoil()
		if now := g.memory(); now != was {
			t.Fatalf("%s of %v and %v: what was handed in shows what was written: %s", d.name, r, lit, now)
		}
		if now := fmt.Sprint(other); now != want {
			t.Fatalf("%s of %v and %v: another answer shows what was written: %s", d.name, r, lit, now)
		}
		if now := fmt.Sprint(d.do(g.ring, g.lit)); now != want {
			t.Fatalf("%s of %v and %v: a later answer shows what was written: %s", d.name, r, lit, now)
		}
	})
}

// TestNothingIsKept writes into what was handed in: no answer shows it.
func TestNothingIsKept(t *testing.T) {
	eachDeed(func(d deed, r api.Ring, lit []api.Latch) {
		g := give(r, lit)
		a := d.do(g.ring, g.lit)
		want := fmt.Sprint(a)
		g.spoil()
		if now := fmt.Sprint(a); now != want {
			t.Fatalf("%s of %v and %v became %s", d.name, r, lit, now)
		}
	})
}

// TestListsOfOneAnswer writes into each list of an answer something of its own, spare room too: no other list of it shows it.
func TestListsOfOneAnswer(t *testing.T) {
	eachDeed(func(d deed, r api.Ring, lit []api.Latch) {
		lists := listsOf(d.do(r, lit))
		for i, l := range lists {
			l.mark(i)
		}
		for i, l := range lists {
			if !l.isMarked(i) {
				t.Fatalf("%s of %v and %v: list %d shares memory with a later one", d.name, r, lit, i)
			}
		}
	})
}

// list is one of an answer's, with all of its memory.
type list struct {
	mark     func(n int)
	isMarked func(n int) bool
}

// listOf is l; of makes what is written into it.
func listOf[T any](l []T, of func(n int) T) list {
	l = l[:cap(l)]
	return list{
		func(n int) {
			for i := range l {
				l[i] = of(n)
			}
		},
		func(n int) bool {
			return !slices.ContainsFunc(l, func(x T) bool { return fmt.Sprint(x) != fmt.Sprint(of(n)) })
		},
	}
}

func listsOf(a answer) []list {
	l := []list{
		listOf(a.ring.Members, func(n int) int { return n }),
		listOf(a.latches, func(n int) api.Latch { return latch(n, n, n) }),
		listOf(a.calls, func(n int) api.Call { return call(n, n) }),
	}
	for _, entries := range [][]api.Entry{a.ring.Entries, a.entries} {
		for _, e := range entries {
			l = append(l, listOf(e.Bids, func(n int) api.Bid { return of(n, n) }))
		}
		l = append(l, listOf(entries, func(n int) api.Entry { return open(latch(n, n, n)) }))
	}
	return l
}

// P19.1

// checkRing holds a ring that was answered against what it has to be.
func checkRing(t *testing.T, what string, got, want api.Ring) {
	t.Helper()
	if g, w := fmt.Sprint(got), fmt.Sprint(want); g != w {
		t.Errorf("%s is\n%s, not\n%s", what, g, w)
	}
}

// checkList holds a list that was answered against what it has to be.
func checkList[T any](t *testing.T, what string, got, want []T) {
	t.Helper()
	if g, w := fmt.Sprint(got), fmt.Sprint(want); g != w {
		t.Errorf("%s is\n%s, not\n%s", what, g, w)
	}
}

// New

func TestNew(t *testing.T) {
	e := api.Epoch{Count: 3, Founder: 1}
	for _, x := range []struct{ members, want []int }{
		{[]int{1, 4}, []int{1, 4}},
		{[]int{0}, []int{0}},
		{[]int{4, 1}, []int{1, 4}}, // in no order
		{[]int{15, 0, 7, 3}, []int{0, 3, 7, 15}},
		{[]int{4, 1, 4}, []int{1, 4}}, // twice
		{[]int{2, 2, 2}, []int{2}},
		{[]int{10, 9, 10, 9}, []int{9, 10}},
		{nil, nil}, // none
		{[]int{}, nil},
		{[]int{16, -1, 3}, []int{-1, 3, 16}}, // no cars
		{[]int{math.MaxInt, math.MinInt, 0, math.MaxInt}, []int{math.MinInt, 0, math.MaxInt}},
		{[]int{1<<32 + 1, 1}, []int{1, 1<<32 + 1}},
	} {
		checkRing(t, fmt.Sprint("New of ", x.members), ledger.New(e, x.members...), api.Ring{Epoch: e, Members: x.want})
	}
	checkRing(t, "New of none", ledger.New(e), api.Ring{Epoch: e})
	checkRing(t, "New one by one", ledger.New(e, 6, 1, 4, 6), api.Ring{Epoch: e, Members: []int{1, 4, 6}})
	checkRing(t, "New of all", ledger.New(e, beyond()...), api.Ring{Epoch: e, Members: beyond()})
}

func TestNewOfEpochs(t *testing.T) {
	for _, e := range []api.Epoch{
		{}, {Count: 1}, {Founder: 15}, {Count: 1<<32 - 1, Founder: 15}, {Count: 1 << 32, Founder: 16}, {Count: -1, Founder: -1},
		{Count: math.MinInt64, Founder: math.MinInt}, {Count: math.MaxInt64, Founder: math.MaxInt},
	} {
		checkRing(t, fmt.Sprint("New of ", e), ledger.New(e, 5, 2), api.Ring{Epoch: e, Members: []int{2, 5}})
	}
}

func TestNewChangesNoMembers(t *testing.T) {
	part, all := wrap([]int{4, 1, 4, 0}, 2)
	r := ledger.New(api.Epoch{Count: 1}, part...)
	checkList(t, "what was handed in", all, []int{2, 2, 4, 1, 4, 0, 2, 2, 2})
	checkList(t, "Members", r.Members, []int{0, 1, 4})
	spoilList(r.Members, 9)
	checkList(t, "what was handed in", all, []int{2, 2, 4, 1, 4, 0, 2, 2, 2})
	r = ledger.New(api.Epoch{Count: 1}, part...)
	spoilList(all, 9)
	checkList(t, "Members", r.Members, []int{0, 1, 4})
}

// Purge

func TestPurge(t *testing.T) {
	r := plainRing()
	e := r.Entries
	for _, x := range []struct {
		lit  []api.Latch
		want []api.Entry
	}{
		// Nothing lit.
		{nil, nil}, {[]api.Latch{}, nil},
		// Some, in whatever order, awarded ones too.
		{[]api.Latch{e[0].Latch}, e[:1]},
		{[]api.Latch{e[6].Latch}, e[6:]},
		{[]api.Latch{e[3].Latch}, e[3:4]},
		{[]api.Latch{e[5].Latch, e[1].Latch}, []api.Entry{e[1], e[5]}},
		{[]api.Latch{e[4].Latch, e[4].Latch}, e[4:5]},
		{[]api.Latch{e[6].Latch, e[4].Latch, e[2].Latch, e[0].Latch}, []api.Entry{e[0], e[2], e[4], e[6]}},
		// Another Gen.
		{[]api.Latch{latch(0, api.Up, 2)}, nil}, {[]api.Latch{latch(0, api.Up, 4)}, nil}, {[]api.Latch{latch(5, api.Down, 8)}, nil},
		{[]api.Latch{latch(0, api.Up, 1<<32+3)}, nil},
		// Another Gen, and the same one.
		{[]api.Latch{latch(0, api.Up, 4), latch(0, api.Up, 3)}, e[:1]},
		{[]api.Latch{latch(0, api.Up, 3), latch(0, api.Up, 4)}, e[:1]},
		// Another floor, another direction.
		{[]api.Latch{latch(0, api.Down, 3), latch(1, api.Up, 3), latch(5, api.Up, 7), latch(9, api.Down, 4)}, nil},
		// Calls that are none.
		{[]api.Latch{latch(-1, api.Up, 3), latch(0, api.None, 3), latch(0, 3, 3), latch(64, api.Down, 1), {}, latch(math.MinInt, math.MaxInt, math.MinInt)}, nil},
	} {
		checkRing(t, fmt.Sprint("Purge of ", x.lit), ledger.Purge(r, x.lit), with(r, x.want...))
	}
}

func TestPurgeWithAllLit(t *testing.T) {
	for _, r := range rings() {
		var lit []api.Latch
		for _, e := range r.Entries {
			lit = append(lit, e.Latch)
		}
		checkRing(t, "Purge with all lit", ledger.Purge(r, lit), r)
		slices.Reverse(lit)
		checkRing(t, "Purge with all lit", ledger.Purge(r, lit), r)
		for i := range lit {
			without := slices.Delete(slices.Clone(lit), i, i+1)
			j := len(lit) - 1 - i
			want := slices.Delete(slices.Clone(r.Entries), j, j+1)
			checkRing(t, "Purge with all lit but one", ledger.Purge(r, without), with(r, want...))
		}
	}
}

func TestPurgeOfNoEntries(t *testing.T) {
	for _, lit := range lists() {
		r := ring([]int{1, 4})
		checkRing(t, fmt.Sprint("Purge of ", lit), ledger.Purge(r, lit), r)
	}
}

// Add

func TestAdd(t *testing.T) {
	r := ring([]int{1, 4}, open(latch(2, api.Down, 5), of(4, 9)), awarded(latch(6, api.Up, 2), 1, of(1, 3), of(4, 3)))
	e, f := r.Entries[0], r.Entries[1]
	for _, x := range []struct {
		lit  []api.Latch
		want []api.Entry
	}{
		{nil, []api.Entry{e, f}}, {[]api.Latch{}, []api.Entry{e, f}},
		// At each place.
		{[]api.Latch{latch(0, api.Up, 3)}, []api.Entry{open(latch(0, api.Up, 3)), e, f}},
		{[]api.Latch{latch(2, api.Up, 1)}, []api.Entry{e, open(latch(2, api.Up, 1)), f}},
		{[]api.Latch{latch(6, api.Down, 1)}, []api.Entry{e, open(latch(6, api.Down, 1)), f}},
		{[]api.Latch{latch(10, api.Down, 1)}, []api.Entry{e, f, open(latch(10, api.Down, 1))}},
		// A call that has one, of that Gen or of another.
		{[]api.Latch{latch(2, api.Down, 5)}, []api.Entry{e, f}},
		{[]api.Latch{latch(2, api.Down, 6)}, []api.Entry{e, f}},
		{[]api.Latch{latch(2, api.Down, 4), latch(6, api.Up, 2), latch(6, api.Up, 3)}, []api.Entry{e, f}},
		// Several of one call: the first.
		{[]api.Latch{latch(3, api.Up, 2), latch(3, api.Up, 1)}, []api.Entry{e, open(latch(3, api.Up, 2)), f}},
		{[]api.Latch{latch(3, api.Up, 1), latch(3, api.Up, 2)}, []api.Entry{e, open(latch(3, api.Up, 1)), f}},
		{[]api.Latch{latch(3, api.Up, 2), latch(1, api.Up, 9), latch(3, api.Up, 1), latch(1, api.Up, 8), latch(3, api.Up, 3)}, []api.Entry{open(latch(1, api.Up, 9)), e, open(latch(3, api.Up, 2)), f}},
		{[]api.Latch{latch(3, api.Up, 4), latch(3, api.Up, 4)}, []api.Entry{e, open(latch(3, api.Up, 4)), f}},
		// In no order.
		{[]api.Latch{latch(9, api.Up, 1), latch(2, api.Up, 2), latch(9, api.Down, 3), latch(0, api.Up, 4), latch(5, api.Down, 5)},
			[]api.Entry{open(latch(0, api.Up, 4)), e, open(latch(2, api.Up, 2)), open(latch(5, api.Down, 5)), f, open(latch(9, api.Down, 3)), open(latch(9, api.Up, 1))}},
		{[]api.Latch{latch(1, api.Up, 1), latch(1, api.Down, 1)}, []api.Entry{open(latch(1, api.Down, 1)), open(latch(1, api.Up, 1)), e, f}},
		// Whatever the Gen is.
		{[]api.Latch{latch(1, api.Up, 0)}, []api.Entry{open(latch(1, api.Up, 0)), e, f}},
		{[]api.Latch{latch(1, api.Up, math.MinInt)}, []api.Entry{open(latch(1, api.Up, math.MinInt)), e, f}},
		{[]api.Latch{latch(1, api.Up, math.MaxInt)}, []api.Entry{open(latch(1, api.Up, math.MaxInt)), e, f}},
	} {
		checkRing(t, fmt.Sprint("Add of ", x.lit), ledger.Add(r, x.lit), with(r, x.want...))
	}
}

// TestAddOfCallsThatAreNone has latches of floors and directions that are none: they have entries as others.
func TestAddOfCallsThatAreNone(t *testing.T) {
	r := ring([]int{1, 4}, open(latch(3, api.Up, 5)))
	var below, above []api.Entry
	var lit []api.Latch
	for _, c := range noCalls() {
		l := api.Latch{Call: c, Gen: c.Floor}
		lit = append(lit, l)
		if c.Floor < 3 || c.Floor == 3 && c.Dir < api.Up {
			below = append(below, open(l))
		} else {
			above = append(above, open(l))
		}
	}
	want := with(r, slices.Concat(below, r.Entries, above)...)
	checkRing(t, "Add of calls that are none", ledger.Add(r, lit), want)
	slices.Reverse(lit)
	checkRing(t, "Add of calls that are none, from behind", ledger.Add(r, lit), want)
}

// TestAddEachOrder has five latches, two of them of one call, in each order.
func TestAddEachOrder(t *testing.T) {
	r := ring([]int{0}, open(latch(4, api.Down, 1)))
	eachOrder([]api.Latch{latch(4, api.Up, 1), latch(3, api.Down, 1), latch(4, api.Up, 2), latch(4, api.Down, 2), latch(5, api.Down, 1)}, func(lit []api.Latch) {
		first := lit[slices.IndexFunc(lit, func(l api.Latch) bool { return l.Call == call(4, api.Up) })]
		want := with(r, open(latch(3, api.Down, 1)), r.Entries[0], open(first), open(latch(5, api.Down, 1)))
		checkRing(t, fmt.Sprint("Add of ", lit), ledger.Add(r, lit), want)
	})
}

// eachOrder hands on l in each order.
func eachOrder[T any](l []T, do func(l []T)) {
	eachOrderBehind(nil, l, do)
}

func eachOrderBehind[T any](ahead, l []T, do func(l []T)) {
	if len(l) == 0 {
		do(slices.Clone(ahead))
		return
	}
	for i, x := range l {
		eachOrderBehind(slices.Concat(ahead, []T{x}), slices.Delete(slices.Clone(l), i, i+1), do)
	}
}

// TestAddOfManyWithOneCall has so many of one call that only a sort that keeps their order finds the first.
func TestAddOfManyWithOneCall(t *testing.T) {
	var lit []api.Latch
	for gen := range 500 {
		lit = append(lit, latch(7, api.Up, 500-gen), latch(gen%5, api.Down, 1000+gen*7919%500))
	}
	var want []api.Entry
	for floor := range 5 {
		want = append(want, open(latch(floor, api.Down, 1000+floor*7919%500)))
	}
	want = append(want, open(latch(7, api.Up, 500)))
	r := ring([]int{0})
	checkRing(t, "Add of many", ledger.Add(r, lit), with(r, want...))
}

// others are latches of calls that full has no entries for, if it lacks one at 5 up: that one in the middle.
func others() []api.Latch {
	return []api.Latch{latch(70, api.Up, 1), latch(5, api.Up, 2), latch(3, api.None, 3), latch(5, api.Up, 4), latch(-1, api.Up, 5), latch(70, api.Down, 6)}
}

func TestAddToAsManyAsMayBe(t *testing.T) {
	r := full([]int{1, 4})
	var lit []api.Latch
	for _, c := range slices.Concat(allCalls(), noCalls()) {
		lit = append(lit, api.Latch{Call: c, Gen: 999})
		checkRing(t, "Add to as many as may be", ledger.Add(r, lit[len(lit)-1:]), r)
	}
	checkRing(t, "Add to as many as may be", ledger.Add(r, lit), r)
	checkRing(t, "Add to as many as may be", ledger.Add(r, others()), r)
}

func TestAddToOneFewer(t *testing.T) {
	for i, c := range allCalls() {
		r := full([]int{1, 4}, c)
		l := api.Latch{Call: c, Gen: 77}
		want := with(r, slices.Insert(slices.Clone(r.Entries), i, open(l))...)
		checkRing(t, "Add to one fewer", ledger.Add(r, []api.Latch{l}), want)
		var lit []api.Latch
		for _, d := range allCalls() {
			lit = append(lit, api.Latch{Call: d, Gen: 77})
		}
		checkRing(t, "Add of all to one fewer", ledger.Add(r, lit), want)
		slices.Reverse(lit)
		checkRing(t, "Add of all to one fewer, from behind", ledger.Add(r, lit), want)
	}
}

// TestAddWhereThereIsNoRoomForAll has latches of more calls than there is room for: those that come first in the calls' order.
func TestAddWhereThereIsNoRoomForAll(t *testing.T) {
	rising := []api.Latch{latch(-1, api.Up, 5), latch(3, api.None, 3), latch(5, api.Up, 2), latch(70, api.Down, 6), latch(70, api.Up, 1)}
	gone := []api.Call{call(5, api.Up), call(6, api.Down), call(63, api.Up), call(0, api.Down), call(20, api.Up), call(21, api.Up)}
	for n := range len(gone) + 1 {
		r := full([]int{1, 4}, gone[:n]...)
		// Where 5 up has an entry, it is none of those that have to be added.
		less := slices.DeleteFunc(slices.Clone(rising), func(l api.Latch) bool { return n == 0 && l.Call == gone[0] })
		want := copied(r)
		for _, l := range less[:min(n, len(less))] {
			want.Entries = append(want.Entries, open(l))
		}
		slices.SortFunc(want.Entries, func(a, b api.Entry) int {
			if a.Latch.Call.Floor != b.Latch.Call.Floor {
				return a.Latch.Call.Floor - b.Latch.Call.Floor
			}
			return a.Latch.Call.Dir - b.Latch.Call.Dir
		})
		if len(want.Entries) != min(most, most-n+len(rising)) {
			t.Fatalf("%d entries for room for %d", len(want.Entries), n)
		}
		checkRing(t, fmt.Sprint("Add with room for ", n), ledger.Add(r, others()), want)
		checkRing(t, fmt.Sprint("Add with room for ", n), ledger.Add(r, rising), want)
	}
}

func TestAddToNew(t *testing.T) {
	r := ledger.New(api.Epoch{Count: 9, Founder: 2}, 2, 0)
	var lit []api.Latch
	var want []api.Entry
	for i, c := range allCalls() {
		lit = append(lit, api.Latch{Call: c, Gen: i + 1})
		want = append(want, open(lit[i]))
	}
	checkRing(t, "Add of all", ledger.Add(r, lit), with(r, want...))
	lit = append(lit, latch(64, api.Down, 1), latch(65, api.Up, 1))
	slices.Reverse(lit)
	checkRing(t, "Add of all, and more", ledger.Add(r, lit), with(r, want...))
}

// TestLongLists has lists that are long: each call ends.
func TestLongLists(t *testing.T) {
	const many = 1 << 16
	lit := make([]api.Latch, many)
	members := make([]int, many)
	for i := range many {
		// 40503 is odd, and many a power of 2, so that each number below many comes, once.
		n := i * 40503 % many
		lit[i] = latch(n/2, 2*(n%2)-1, i)
		members[i] = n
	}
	r := ledger.Add(ring([]int{3}), lit)
	if len(r.Entries) != most {
		t.Fatalf("%d entries", len(r.Entries))
	}
	for i, e := range r.Entries {
		if e.Latch.Call != allCalls()[i] {
			t.Fatalf("entry %d is %v", i, e)
		}
	}
	checkRing(t, "Purge of many", ledger.Purge(r, lit), r)
	if x := ledger.New(api.Epoch{}, members...); len(x.Members) != many || x.Members[many-1] != many-1 {
		t.Errorf("%d members", len(x.Members))
	}
}

// Wants

func TestWants(t *testing.T) {
	r := plainRing()
	for _, x := range []struct {
		car  int
		want []api.Call
	}{
		{1, []api.Call{call(0, api.Up), call(2, api.Down)}},
		{4, []api.Call{call(0, api.Up), call(2, api.Up)}},
		{6, []api.Call{call(0, api.Up), call(2, api.Down)}},
		// No members.
		{0, nil}, {2, nil}, {3, nil}, {5, nil}, {7, nil}, {12, nil}, {15, nil}, {16, nil}, {-1, nil}, {-4, nil},
		{1<<32 + 1, nil}, {1<<32 + 4, nil}, {math.MinInt, nil}, {math.MaxInt, nil},
	} {
		checkList(t, fmt.Sprint("Wants of ", x.car), ledger.Wants(r, x.car), x.want)
	}
	for _, car := range beyond() {
		checkList(t, fmt.Sprint("Wants of no entries, of ", car), ledger.Wants(ring([]int{0, 1, 2}), car), nil)
	}
}

func TestWantsOfOneThatHasBidForAll(t *testing.T) {
	r := ring([]int{2, 5, 6}, open(latch(1, api.Up, 1), of(2, 0)), open(latch(2, api.Down, 1), of(2, 1<<20), of(6, 3)), awarded(latch(2, api.Up, 1), 6, of(2, 3), of(5, 4), of(6, 1)))
	checkList(t, "Wants of one that has bid for all", ledger.Wants(r, 2), nil)
	checkList(t, "Wants of one that has bid for none", ledger.Wants(r, 5), []api.Call{call(1, api.Up), call(2, api.Down)})
	checkList(t, "Wants of one that has bid for one", ledger.Wants(r, 6), []api.Call{call(1, api.Up)})
}

// TestWantsOfAwarded has awarded entries with and without bids: nobody wants them.
func TestWantsOfAwarded(t *testing.T) {
	r := ring([]int{0, 5}, awarded(latch(1, api.Up, 1), 0), awarded(latch(2, api.Up, 1), 5), awarded(latch(3, api.Up, 1), 5, of(0, 1)), open(latch(4, api.Up, 1), of(5, 1)))
	checkList(t, "Wants of 0", ledger.Wants(r, 0), []api.Call{call(4, api.Up)})
	checkList(t, "Wants of 5", ledger.Wants(r, 5), nil)
}

func TestWantsOfAsManyAsMayBe(t *testing.T) {
	checkList(t, "Wants of all", ledger.Wants(full([]int{1, 4}), 4), allCalls())
	checkList(t, "Wants of none", ledger.Wants(full([]int{1, 4}), 3), nil)
}

// Bid

// checkBid holds what Bid tells against what it has to be.
func checkBid(t *testing.T, r api.Ring, b api.Bid, c api.Call, want api.Ring, is bool) {
	t.Helper()
	got, ok := ledger.Bid(r, b, c)
	if ok != is {
		t.Errorf("Bid of %v for %v is %v", b, c, ok)
	}
	checkRing(t, fmt.Sprintf("Bid of %v for %v", b, c), got, want)
}

// bidOn is r with another list of bids on entry i.
func bidOn(r api.Ring, i int, bids ...api.Bid) api.Ring {
	r = copied(r)
	r.Entries[i].Bids = bids
	return r
}

func TestBid(t *testing.T) {
	r := plainRing()
	// Nobody has bid.
	checkBid(t, r, of(4, 7), call(0, api.Up), bidOn(r, 0, of(4, 7)), true)
	// Ahead of all, behind all, between two.
	checkBid(t, r, of(1, 30), call(2, api.Down), bidOn(r, 1, of(1, 30), of(4, 9)), true)
	checkBid(t, r, of(6, 1), call(2, api.Down), bidOn(r, 1, of(4, 9), of(6, 1)), true)
	checkBid(t, r, of(4, 3), call(2, api.Up), bidOn(r, 2, of(1, 3), of(4, 3), of(6, 3)), true)
	checkBid(t, r, of(4, 0), call(2, api.Up), bidOn(r, 2, of(1, 3), of(4, 0), of(6, 3)), true)
}

func TestBidAtEachPlace(t *testing.T) {
	all := []api.Bid{of(0, 9), of(3, 2), of(4, 1<<20), of(9, 0), of(10, 9), of(15, 4)}
	c := call(8, api.Down)
	for i, b := range all {
		r := ring([]int{0, 3, 4, 9, 10, 15}, open(latch(7, api.Up, 1), b), open(latch(8, api.Down, 2), slices.Delete(slices.Clone(all), i, i+1)...), open(latch(8, api.Up, 2)))
		checkBid(t, r, b, c, bidOn(r, 1, all...), true)
		r = bidOn(r, 1)
		checkBid(t, r, b, c, bidOn(r, 1, b), true)
	}
}

func TestBidTicks(t *testing.T) {
	r := plainRing()
	for _, ticks := range beyond() {
		b := of(4, ticks)
		if ticks >= 0 && ticks <= 1<<20 {
			checkBid(t, r, b, call(0, api.Up), bidOn(r, 0, b), true)
		} else {
			checkBid(t, r, b, call(0, api.Up), r, false)
		}
	}
	checkBid(t, r, of(1, 0), call(0, api.Up), bidOn(r, 0, of(1, 0)), true)
	checkBid(t, r, of(1, -1), call(0, api.Up), r, false)
	checkBid(t, r, of(1, api.MaxTicks), call(0, api.Up), bidOn(r, 0, of(1, 1<<20)), true)
	checkBid(t, r, of(1, api.MaxTicks-1), call(0, api.Up), bidOn(r, 0, of(1, 1<<20-1)), true)
	checkBid(t, r, of(1, api.MaxTicks+1), call(0, api.Up), r, false)
}

func TestBidThatMayNotBe(t *testing.T) {
	r := plainRing()
	// The call has no entry.
	for _, c := range slices.Concat(noCalls(), []api.Call{{}, call(0, api.Down), call(1, api.Up), call(9, api.Down), call(63, api.Up), call(1<<32, api.Up), call(0, 1<<32+1)}) {
		checkBid(t, r, of(4, 7), c, r, false)
	}
	// It is awarded.
	for _, car := range r.Members {
		checkBid(t, r, of(car, 0), call(5, api.Down), r, false)
		checkBid(t, r, of(car, 0), call(9, api.Up), r, false)
	}
	// No member.
	for _, car := range beyond() {
		if !slices.Contains(r.Members, car) {
			checkBid(t, r, of(car, 7), call(0, api.Up), r, false)
			checkBid(t, r, of(car, 7), call(2, api.Down), r, false)
		}
	}
	// It has bid.
	for _, ticks := range []int{0, 2, 3, 4, 9, 1 << 20} {
		checkBid(t, r, of(4, ticks), call(2, api.Down), r, false)
		checkBid(t, r, of(1, ticks), call(2, api.Up), r, false)
		checkBid(t, r, of(6, ticks), call(2, api.Up), r, false)
		checkBid(t, r, of(4, ticks), call(5, api.Up), r, false)
	}
	// No entries, no members.
	checkBid(t, ring([]int{4}), of(4, 7), call(0, api.Up), ring([]int{4}), false)
	none := ledger.New(api.Epoch{Count: 2})
	checkBid(t, none, of(0, 0), api.Call{}, none, false)
}

// TestBidOnAwardedWithoutBids has entries awarded on which somebody has not bid: nobody may.
func TestBidOnAwardedWithoutBids(t *testing.T) {
	r := ring([]int{0, 5}, awarded(latch(1, api.Up, 1), 0), awarded(latch(3, api.Up, 1), 5, of(0, 1)))
	checkBid(t, r, of(0, 4), call(1, api.Up), r, false)
	checkBid(t, r, of(5, 4), call(1, api.Up), r, false)
	checkBid(t, r, of(5, 4), call(3, api.Up), r, false)
}

func TestBidOnEachOfAsManyAsMayBe(t *testing.T) {
	r := full([]int{1, 4})
	for i, c := range allCalls() {
		checkBid(t, r, of(4, i), c, bidOn(r, i, of(4, i)), true)
	}
}

// Award

// checkAward holds what Award tells against what it has to be: entries that are awarded, by places, each to whom.
func checkAward(t *testing.T, r api.Ring, to map[int]int) {
	t.Helper()
	want := copied(r)
	var awards []api.Entry
	for i := range want.Entries {
		if car, is := to[i]; is {
			want.Entries[i].Award = car
			awards = append(awards, want.Entries[i])
		}
	}
	got, entries := ledger.Award(r)
	checkRing(t, fmt.Sprint("Award of ", r), got, want)
	checkList(t, fmt.Sprint("awarded of ", r), entries, awards)
}

func TestAward(t *testing.T) {
	checkAward(t, plainRing(), map[int]int{4: 4, 6: 1})
}

// TestExample is the chapter's: Award of a new ring.
func TestExample(t *testing.T) {
	checkAward(t, ledger.New(api.Epoch{Count: 3, Founder: 1}, 4, 1), nil)
	checkAward(t, ledger.New(api.Epoch{Count: 3, Founder: 1}), nil)
	checkAward(t, ledger.New(api.Epoch{}), nil)
	checkAward(t, api.Ring{}, nil)
}

func TestAwardBids(t *testing.T) {
	l := latch(3, api.Down, 6)
	for _, x := range []struct {
		members []int
		bids    []api.Bid
		want    map[int]int
	}{
		// All but one have bid.
		{[]int{1, 4, 6}, nil, nil},
		{[]int{1}, nil, nil},
		{[]int{1, 4, 6}, []api.Bid{of(1, 0)}, nil},
		{[]int{1, 4, 6}, []api.Bid{of(1, 0), of(4, 0)}, nil},
		{[]int{1, 4, 6}, []api.Bid{of(1, 0), of(6, 0)}, nil},
		{[]int{1, 4, 6}, []api.Bid{of(4, 0), of(6, 0)}, nil},
		// All have.
		{[]int{1}, []api.Bid{of(1, 9)}, map[int]int{0: 1}},
		{[]int{0}, []api.Bid{of(0, 0)}, map[int]int{0: 0}},
		{[]int{15}, []api.Bid{of(15, 1<<20)}, map[int]int{0: 15}},
		{[]int{1, 4, 6}, []api.Bid{of(1, 2), of(4, 3), of(6, 4)}, map[int]int{0: 1}},
		{[]int{1, 4, 6}, []api.Bid{of(1, 3), of(4, 2), of(6, 4)}, map[int]int{0: 4}},
		{[]int{1, 4, 6}, []api.Bid{of(1, 3), of(4, 4), of(6, 2)}, map[int]int{0: 6}},
		{[]int{1, 4, 6}, []api.Bid{of(1, 1<<20), of(4, 1<<20-1), of(6, 1<<20)}, map[int]int{0: 4}},
		{[]int{1, 4, 6}, []api.Bid{of(1, 10), of(4, 9), of(6, 10)}, map[int]int{0: 4}},
		// Several as good.
		{[]int{1, 4, 6}, []api.Bid{of(1, 2), of(4, 2), of(6, 2)}, map[int]int{0: 1}},
		{[]int{1, 4, 6}, []api.Bid{of(1, 3), of(4, 2), of(6, 2)}, map[int]int{0: 4}},
		{[]int{1, 4, 6}, []api.Bid{of(1, 2), of(4, 3), of(6, 2)}, map[int]int{0: 1}},
		{[]int{9, 10}, []api.Bid{of(9, 1<<20), of(10, 1<<20)}, map[int]int{0: 9}},
		{[]int{0, 15}, []api.Bid{of(0, 0), of(15, 0)}, map[int]int{0: 0}},
	} {
		checkAward(t, ring(x.members, open(l, x.bids...)), x.want)
	}
}

// TestAwardOfAwarded has entries that are awarded already, to one that is not the least too: they stay so, and are not told again.
func TestAwardOfAwarded(t *testing.T) {
	bids := []api.Bid{of(1, 2), of(4, 3)}
	for _, car := range []int{1, 4} {
		for _, n := range []int{0, 1, 2} {
			checkAward(t, ring([]int{1, 4}, awarded(latch(3, api.Down, 6), car, bids[:n]...)), nil)
		}
		checkAward(t, ring([]int{1, 4}, open(latch(2, api.Down, 6), bids...), awarded(latch(3, api.Down, 6), car, bids...), open(latch(3, api.Up, 6), bids...)), map[int]int{0: 1, 2: 1})
	}
	zero := []api.Bid{of(0, 9), of(4, 3)}
	checkAward(t, ring([]int{0, 4}, awarded(latch(3, api.Down, 6), 0, zero...)), nil)
}

func TestAwardTwice(t *testing.T) {
	for _, r := range rings() {
		one, _ := ledger.Award(r)
		other, again := ledger.Award(one)
		checkRing(t, "a second Award", other, one)
		checkList(t, "awarded by a second Award", again, nil)
	}
}

func TestAwardOfAsManyAsMayBe(t *testing.T) {
	r := full([]int{1, 4})
	to := map[int]int{}
	for i := range r.Entries {
		r.Entries[i].Bids = []api.Bid{of(1, i), of(4, most-i)}
		to[i] = 1
		if most-i < i {
			to[i] = 4
		}
	}
	checkAward(t, r, to)
}

// TestAwardOfNoMembers has a ring without members: there is nobody to award a call to.
func TestAwardOfNoMembers(t *testing.T) {
	checkAward(t, ledger.Add(ledger.New(api.Epoch{Count: 2}), []api.Latch{latch(1, api.Up, 1)}), nil)
}

// Mine

func TestMine(t *testing.T) {
	r := ring([]int{0, 1, 4, 6},
		awarded(latch(0, api.Up, 3), 4),
		awarded(latch(2, api.Down, 1), 0, of(1, 3)),
		open(latch(2, api.Up, 2), of(1, 3), of(4, 3)),
		awarded(latch(5, api.Down, 7), 4, of(1, 8), of(4, 2), of(6, 5)),
		awarded(latch(5, api.Up, 1), 1),
		open(latch(9, api.Up, 4)),
		awarded(latch(63, api.Down, 1<<31-1), 4),
	)
	for _, x := range []struct {
		car  int
		want []api.Latch
	}{
		{4, []api.Latch{latch(0, api.Up, 3), latch(5, api.Down, 7), latch(63, api.Down, 1<<31-1)}},
		{0, []api.Latch{latch(2, api.Down, 1)}},
		{1, []api.Latch{latch(5, api.Up, 1)}},
		// None was awarded to them, members or not; -1 is nobody.
		{6, nil}, {-1, nil}, {-2, nil}, {2, nil}, {3, nil}, {5, nil}, {16, nil}, {1 << 32, nil}, {1<<32 + 4, nil}, {1<<32 - 1, nil}, {math.MinInt, nil}, {math.MaxInt, nil},
	} {
		checkList(t, fmt.Sprint("Mine of ", x.car), ledger.Mine(r, x.car), x.want)
	}
	for _, car := range beyond() {
		checkList(t, fmt.Sprint("Mine of no entries, of ", car), ledger.Mine(ring([]int{0, 1, 2}), car), nil)
		checkList(t, fmt.Sprint("Mine of entries that are not awarded, of ", car), ledger.Mine(full([]int{0, 1, 2}), car), nil)
	}
}

// Pass

func TestPass(t *testing.T) {
	for _, x := range []struct {
		hop, want int64
		is        bool
	}{
		{0, 1, true}, {1, 2, true}, {12, 13, true}, {1<<31 - 1, 1 << 31, true}, {1<<32 - 1, 1 << 32, true},
		{api.MaxHop - 2, 1<<40 - 1, true}, {api.MaxHop - 1, 1 << 40, true}, {api.MaxHop, 1 << 40, false},
	} {
		for _, r := range rings() {
			r.Hop = x.hop
			want := copied(r)
			want.Hop = x.want
			got, is := ledger.Pass(r)
			checkRing(t, fmt.Sprint("Pass of Hop ", x.hop), got, want)
			if is != x.is {
				t.Errorf("Pass of Hop %d is %v", x.hop, is)
			}
		}
	}
}

// TestPassBeyond has a Hop that no token has: there are no more hops either.
func TestPassBeyond(t *testing.T) {
	for _, hop := range []int64{api.MaxHop + 1, math.MaxInt64 - 1, math.MaxInt64} {
		r := ring([]int{1})
		r.Hop = hop
		if got, is := ledger.Pass(r); got.Hop != hop || is {
			t.Errorf("Pass of Hop %d is %d, %v", hop, got.Hop, is)
		}
	}
}

// P19.2

// Same

// checkSame holds Same of a and b, and of b and a, against what they have to be.
func checkSame(t *testing.T, a, b api.Ring, want bool) {
	t.Helper()
	if got := ledger.Same(a, b); got != want {
		t.Errorf("Same of\n%v and\n%v is %v", a, b, got)
	}
	if got := ledger.Same(b, a); got != want {
		t.Errorf("Same of\n%v and\n%v is %v", b, a, got)
	}
}

// changes are such that each makes another ring of one that has an entry 0 with two bids; each touches one field.
func changes() []func(r *api.Ring) {
	var l []func(r *api.Ring)
	for _, d := range []int{1, -1, 1 << 31, 1 << 32, -1 << 32, 1 << 62, math.MinInt} {
		l = append(l,
			func(r *api.Ring) { r.Epoch.Count += int64(d) },
			func(r *api.Ring) { r.Epoch.Founder += d },
			func(r *api.Ring) { r.Hop += int64(d) },
			func(r *api.Ring) { r.Members[0] += d },
			func(r *api.Ring) { r.Members[len(r.Members)-1] += d },
			func(r *api.Ring) { r.Entries[0].Latch.Call.Floor += d },
			func(r *api.Ring) { r.Entries[0].Latch.Call.Dir += d },
			func(r *api.Ring) { r.Entries[0].Latch.Gen += d },
			func(r *api.Ring) { r.Entries[0].Award += d },
			func(r *api.Ring) { r.Entries[0].Bids[0].Car += d },
			func(r *api.Ring) { r.Entries[0].Bids[0].Ticks += d },
			func(r *api.Ring) { r.Entries[0].Bids[1].Car += d },
			func(r *api.Ring) { r.Entries[0].Bids[1].Ticks += d },
			func(r *api.Ring) { r.Entries[len(r.Entries)-1].Award += d },
			func(r *api.Ring) { r.Entries[len(r.Entries)-1].Latch.Gen += d },
		)
	}
	return append(l,
		func(r *api.Ring) { r.Members = nil },
		func(r *api.Ring) { r.Members = r.Members[1:] },
		func(r *api.Ring) { r.Members = r.Members[:len(r.Members)-1] },
		func(r *api.Ring) { r.Members = append(r.Members, 0) },
		func(r *api.Ring) { r.Members = append(r.Members, 15) },
		func(r *api.Ring) { slices.Reverse(r.Members) },
		func(r *api.Ring) { r.Entries = nil },
		func(r *api.Ring) { r.Entries = r.Entries[1:] },
		func(r *api.Ring) { r.Entries = r.Entries[:len(r.Entries)-1] },
		func(r *api.Ring) { r.Entries = append(r.Entries, api.Entry{}) },
		func(r *api.Ring) { slices.Reverse(r.Entries) },
		func(r *api.Ring) { r.Entries[0].Bids = nil },
		func(r *api.Ring) { r.Entries[0].Bids = r.Entries[0].Bids[1:] },
		func(r *api.Ring) { r.Entries[0].Bids = r.Entries[0].Bids[:1] },
		func(r *api.Ring) { r.Entries[0].Bids = append(r.Entries[0].Bids, api.Bid{}) },
		func(r *api.Ring) { slices.Reverse(r.Entries[0].Bids) },
	)
}

func TestSame(t *testing.T) {
	r := ring([]int{1, 4, 6},
		awarded(latch(0, api.Up, 3), 4, of(1, 8), of(4, 2)),
		open(latch(2, api.Down, 1)),
		open(latch(2, api.Up, 2), of(6, 3)),
	)
	for i, change := range changes() {
		x := copied(r)
		checkSame(t, r, x, true)
		change(&x)
		if fmt.Sprint(x) == fmt.Sprint(r) {
			t.Fatalf("change %d changes nothing", i)
		}
		checkSame(t, r, x, false)
		checkSame(t, x, copied(x), true)
	}
}

func TestSameOfEachTwo(t *testing.T) {
	for i, a := range rings() {
		for j, b := range rings() {
			checkSame(t, a, b, i == j)
		}
	}
}

func TestSameOfNone(t *testing.T) {
	a := api.Ring{Members: []int{}, Entries: []api.Entry{}}
	checkSame(t, api.Ring{}, a, true)
	checkSame(t, api.Ring{}, api.Ring{}, true)
	checkSame(t, ledger.New(api.Epoch{}), a, true)
	b := ring([]int{1}, open(latch(1, api.Up, 1)))
	c := ring([]int{1}, api.Entry{Latch: latch(1, api.Up, 1), Bids: []api.Bid{}, Award: -1})
	b.Entries[0].Bids = nil
	checkSame(t, b, c, true)
	checkSame(t, api.Ring{}, ring(nil), false)
	checkSame(t, a, api.Ring{Members: []int{0}}, false)
	checkSame(t, a, api.Ring{Entries: []api.Entry{{}}}, false)
}

// TestSameReadsNothingBehind has rings whose memory behind a length differs.
func TestSameReadsNothingBehind(t *testing.T) {
	for _, r := range rings() {
		g := give(r, nil)
		was := g.memory()
		checkSame(t, g.ring, r, true)
		if now := g.memory(); now != was {
			t.Fatalf("what was handed in to Same became %s", now)
		}
	}
}

// awards are whom the calls of r are awarded to.
func awards(r api.Ring) map[api.Latch]int {
	m := map[api.Latch]int{}
	for _, e := range r.Entries {
		if e.Award != -1 {
			m[e.Latch] = e.Award
		}
	}
	return m
}

// checkStays holds now against was: what was awarded is so still, to that one, if it is not purged.
func checkStays(t *testing.T, what string, was, now api.Ring, isPurged func(l api.Latch) bool) {
	t.Helper()
	is := awards(now)
	for l, car := range awards(was) {
		if isPurged(l) {
			continue
		}
		if to, has := is[l]; !has || to != car {
			t.Fatalf("%s of %v: %v was awarded to %d; it became %v", what, was, l, car, now)
		}
	}
}

// TestAwardedStaysSo has each call asked, with whatever is lit, Purge with what is awarded lit.
func TestAwardedStaysSo(t *testing.T) {
	eachDeed(func(d deed, r api.Ring, lit []api.Latch) {
		if !d.becomes {
			return
		}
		isPurged := func(l api.Latch) bool { return d.name == "Purge" && !slices.Contains(lit, l) }
		checkStays(t, d.name, r, d.do(r, lit).ring, isPurged)
	})
}

// Plays of several calls, held against a plain telling of the chapter

// told is a ring told plainly: each call's entry by its call, each bid by its car.
type told struct {
	epoch   api.Epoch
	hop     int64
	members map[int]struct{}
	entries map[api.Call]toldEntry
}

type toldEntry struct {
	gen   int
	bids  map[int]int
	award *int
}

func tellNew(e api.Epoch, members ...int) *told {
	x := &told{epoch: e, members: map[int]struct{}{}, entries: map[api.Call]toldEntry{}}
	for _, m := range members {
		x.members[m] = struct{}{}
	}
	return x
}

// ring is what a ring has to be, by a walk over all that may be on it.
func (x *told) ring() api.Ring {
	r := api.Ring{Epoch: x.epoch, Hop: x.hop}
	for car := range api.MaxCars {
		if _, is := x.members[car]; is {
			r.Members = append(r.Members, car)
		}
	}
	for _, c := range allCalls() {
		if e, is := x.entries[c]; is {
			r.Entries = append(r.Entries, e.entry(c))
		}
	}
	return r
}

func (e toldEntry) entry(c api.Call) api.Entry {
	x := api.Entry{Latch: api.Latch{Call: c, Gen: e.gen}, Award: -1}
	for car := range api.MaxCars {
		if ticks, is := e.bids[car]; is {
			x.Bids = append(x.Bids, of(car, ticks))
		}
	}
	if e.award != nil {
		x.Award = *e.award
	}
	return x
}

// clone shares nothing that is ever written.
func (x *told) clone() *told {
	y := tellNew(x.epoch)
	y.hop = x.hop
	for m := range x.members {
		y.members[m] = struct{}{}
	}
	for c, e := range x.entries {
		bids := map[int]int{}
		for car, ticks := range e.bids {
			bids[car] = ticks
		}
		y.entries[c] = toldEntry{e.gen, bids, e.award}
	}
	return y
}

func (x *told) purge(lit []api.Latch) {
	left := map[api.Call]toldEntry{}
	for _, l := range lit {
		if e, is := x.entries[l.Call]; is && e.gen == l.Gen {
			left[l.Call] = e
		}
	}
	x.entries = left
}

func (x *told) add(lit []api.Latch) {
	for _, l := range lit {
		if _, is := x.entries[l.Call]; !is {
			x.entries[l.Call] = toldEntry{l.Gen, map[int]int{}, nil}
		}
	}
}

func (x *told) bid(b api.Bid, c api.Call) bool {
	e, is := x.entries[c]
	if !is || e.award != nil || b.Ticks < 0 || b.Ticks > 1<<20 {
		return false
	}
	if _, is = x.members[b.Car]; !is {
		return false
	}
	if _, is = e.bids[b.Car]; is {
		return false
	}
	e.bids[b.Car] = b.Ticks
	return true
}

func (x *told) award() []api.Entry {
	var l []api.Entry
	for _, c := range allCalls() {
		e, is := x.entries[c]
		if !is || e.award != nil || len(e.bids) != len(x.members) {
			continue
		}
		best := -1
		for car := range api.MaxCars {
			if ticks, is := e.bids[car]; is && (best < 0 || ticks < e.bids[best]) {
				best = car
			}
		}
		e.award = &best
		x.entries[c] = e
		l = append(l, e.entry(c))
	}
	return l
}

// act is a call, and its plain telling; both tell what they answer beside a ring.
type act struct {
	name   string
	purges bool
	do     func(r api.Ring) (api.Ring, string)
	tell   func(x *told) string
}

func bids(b api.Bid, c api.Call) act {
	return act{fmt.Sprintf("Bid %v %v", b, c), false,
		func(r api.Ring) (api.Ring, string) {
			x, is := ledger.Bid(r, b, c)
			return x, fmt.Sprint(is)
		},
		func(x *told) string { return fmt.Sprint(x.bid(b, c)) },
	}
}

func adds(lit ...api.Latch) act {
	return act{fmt.Sprint("Add ", lit), false,
		func(r api.Ring) (api.Ring, string) { return ledger.Add(r, lit), "" },
		func(x *told) string { x.add(lit); return "" },
	}
}

func purges(lit ...api.Latch) act {
	return act{fmt.Sprint("Purge ", lit), true,
		func(r api.Ring) (api.Ring, string) { return ledger.Purge(r, lit), "" },
		func(x *told) string { x.purge(lit); return "" },
	}
}

func acts() []act {
	one, other := latch(2, api.Down, 1), latch(2, api.Up, 1)
	return []act{
		adds(other, one, latch(2, api.Up, 2)),
		adds(latch(2, api.Down, 2), latch(0, api.Up, 1)),
		purges(one, other),
		purges(latch(2, api.Down, 2), other),
		bids(of(1, 5), one.Call),
		bids(of(4, 5), one.Call),
		bids(of(4, 4), one.Call),
		bids(of(1, 6), other.Call),
		bids(of(4, 0), other.Call),
		bids(of(2, 0), one.Call),
		bids(of(1, -1), other.Call),
		{"Award", false,
			func(r api.Ring) (api.Ring, string) {
				x, l := ledger.Award(r)
				return x, fmt.Sprint(l)
			},
			func(x *told) string { return fmt.Sprint(x.award()) },
		},
		{"Pass", false,
			func(r api.Ring) (api.Ring, string) {
				x, is := ledger.Pass(r)
				return x, fmt.Sprint(is)
			},
			func(x *told) string { x.hop++; return "true" },
		},
	}
}

// checkAsked holds what is asked of r against the telling.
func checkAsked(t *testing.T, r api.Ring, x *told) {
	t.Helper()
	want := x.ring()
	if fmt.Sprint(r) != fmt.Sprint(want) || !ledger.Same(r, want) || !isValid(r) {
		t.Fatalf("the ring is\n%v, not\n%v", r, want)
	}
	for car := -1; car < 6; car++ {
		var wants []api.Call
		var mine []api.Latch
		_, is := x.members[car]
		for _, e := range want.Entries {
			if e.Award >= 0 && e.Award == car {
				mine = append(mine, e.Latch)
			}
			if _, has := x.entries[e.Latch.Call].bids[car]; is && !has && e.Award < 0 {
				wants = append(wants, e.Latch.Call)
			}
		}
		checkList(t, fmt.Sprintf("Wants of %v and %d", r, car), ledger.Wants(r, car), wants)
		checkList(t, fmt.Sprintf("Mine of %v and %d", r, car), ledger.Mine(r, car), mine)
	}
}

// play has each of so many acts one behind the other, from r on.
func play(t *testing.T, names []string, r api.Ring, x *told, more int) {
	t.Helper()
	checkAsked(t, r, x)
	if t.Failed() {
		t.Fatalf("behind %v", names)
	}
	if more == 0 {
		return
	}
	was := fmt.Sprint(r)
	for _, a := range acts() {
		y := x.clone()
		next, got := a.do(r)
		all := append(slices.Clone(names), a.name)
		if want := a.tell(y); got != want {
			t.Fatalf("behind %v it answers %s, not %s", all, got, want)
		}
		if fmt.Sprint(r) != was {
			t.Fatalf("behind %v what was handed in became %v", all, r)
		}
		isPurged := func(l api.Latch) bool { return a.purges && y.entries[l.Call].gen != l.Gen }
		checkStays(t, a.name, r, next, isPurged)
		play(t, all, next, y, more-1)
	}
}

func TestPlays(t *testing.T) {
	e := api.Epoch{Count: 3, Founder: 1}
	play(t, nil, ledger.New(e, 4, 1), tellNew(e, 4, 1), 3)
	play(t, nil, ledger.New(e, 1), tellNew(e, 1), 3)
	// From a ring on which there is something already.
	r, x := ledger.New(e, 4, 1, 4), tellNew(e, 1, 4)
	for i, n := range []int{0, 5, 8} {
		next, got := acts()[n].do(r)
		if want := acts()[n].tell(x); got != want {
			t.Fatalf("act %d answers %s, not %s", i, got, want)
		}
		r = next
	}
	play(t, nil, r, x, 4)
}

// TestRound has a token go round: each bids for what it wants, the last one awards, and each has its own, once.
func TestRound(t *testing.T) {
	lit := []api.Latch{latch(4, api.Up, 1), latch(1, api.Up, 2), latch(4, api.Down, 3)}
	r := ledger.New(api.Epoch{Count: 1, Founder: 0}, 2, 0, 1)
	ticks := map[int][]int{0: {5, 0, 7}, 1: {5, 3, 6}, 2: {4, 3, 6}}
	var told []api.Entry
	for range 2 {
		for _, car := range []int{0, 1, 2} {
			r = ledger.Add(ledger.Purge(r, lit), lit)
			for i, c := range ledger.Wants(r, car) {
				r, _ = ledger.Bid(r, of(car, ticks[car][i]), c)
			}
			var l []api.Entry
			r, l = ledger.Award(r)
			told = append(told, l...)
			r, _ = ledger.Pass(r)
		}
	}
	checkList(t, "awarded", told, []api.Entry{
		awarded(latch(1, api.Up, 2), 2, of(0, 5), of(1, 5), of(2, 4)),
		awarded(latch(4, api.Down, 3), 0, of(0, 0), of(1, 3), of(2, 3)),
		awarded(latch(4, api.Up, 1), 1, of(0, 7), of(1, 6), of(2, 6)),
	})
	checkRing(t, "the ring", r, api.Ring{Epoch: api.Epoch{Count: 1}, Hop: 6, Members: []int{0, 1, 2}, Entries: told})
	for car, l := range []api.Latch{lit[2], lit[0], lit[1]} {
		checkList(t, fmt.Sprint("Mine of ", car), ledger.Mine(r, car), []api.Latch{l})
	}
	// What is lit anew is bid for anew.
	lit[1].Gen++
	r = ledger.Add(ledger.Purge(r, lit), lit)
	checkList(t, "Mine of 2", ledger.Mine(r, 2), nil)
	checkList(t, "Wants of 2", ledger.Wants(r, 2), []api.Call{lit[1].Call})
}
