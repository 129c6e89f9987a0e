package meter_test

import (
	"math"
	"slices"
	"sync"
	"testing"

	"paternoster/api"
	"paternoster/meter"
)

// P20.1

// kinds are those that are counted, told anew, least first.
func kinds() []int {
	return []int{1, 2, 3, 4, 5, 6, 7, 8, 9, 10, 11}
}

// noKinds are numbers that are none, among them those that a narrower int would take for one.
func noKinds() []int {
	l := []int{
		0, -1, -2, -10, -11, -12, -128, -255, -256, -1 << 31, -1<<31 - 1, -1 << 32, math.MinInt + 12, math.MinInt + 11, math.MinInt + 2, math.MinInt + 1, math.MinInt,
		12, 13, 15, 16, 17, 31, 32, 63, 64, 127, 128, 255, 256, 1<<31 - 1, 1 << 31, 1<<32 - 1, 1 << 32, 1 << 40, math.MaxInt - 11, math.MaxInt - 1, math.MaxInt,
	}
	for _, k := range kinds() {
		l = append(l, k+16, k+256, k-256, k+1<<16, k-1<<16, k+1<<32, k-1<<32, k+math.MinInt)
	}
	return l
}

// plain is what the chapter tells, by a map.
type plain map[int]int64

func (p plain) add(kind int) bool {
	if !slices.Contains(kinds(), kind) {
		return false
	}
	p[kind]++
	return true
}

func (p plain) sum() int64 {
	n := int64(0)
	for _, k := range kinds() {
		n += p[k]
	}
	return n
}

func (p plain) most() (int, bool) {
	for _, k := range kinds() {
		if p[k] > 0 && p.ahead(k) {
			return k, true
		}
	}
	return 0, false
}

// ahead is whether there are no more of any kind than of that one.
func (p plain) ahead(kind int) bool {
	for _, k := range kinds() {
		if p[k] > p[kind] {
			return false
		}
	}
	return true
}

// check asks m all that it answers, twice, as asking changes nothing.
func check(t *testing.T, m *meter.Meter, p plain) {
	t.Helper()
	for range 2 {
		for _, k := range kinds() {
			if n := m.Get(k); n != p[k] {
				t.Fatalf("%v: Get(%d) = %d", p, k, n)
			}
		}
		for _, k := range []int{0, 12, -1, 1<<32 + 1} {
			if n := m.Get(k); n != 0 {
				t.Fatalf("%v: Get(%d) = %d", p, k, n)
			}
		}
		if n := m.Sum(); n != p.sum() {
			t.Fatalf("%v: Sum() = %d, not %d", p, n, p.sum())
		}
		kind, ok := p.most()
		if k, is := m.Most(); k != kind || is != ok {
			t.Fatalf("%v: Most() = %d, %t, not %d, %t", p, k, is, kind, ok)
		}
	}
}

// add counts n of a kind in both.
func add(t *testing.T, m *meter.Meter, p plain, kind int, n int) {
	t.Helper()
	for range n {
		if is, want := m.Add(kind), p.add(kind); is != want {
			t.Fatalf("%v: Add(%d) = %t", p, kind, is)
		}
	}
}

func TestExample(t *testing.T) {
	var m meter.Meter
	if !m.Add(api.Claim) || m.Sum() != 1 {
		t.Errorf("Sum() = %d", m.Sum())
	}
}

func TestKindsAreTheEvents(t *testing.T) {
	events := []int{api.Claim, api.Award, api.Found, api.Join, api.Open, api.Close, api.Move, api.Clear, api.Boot, api.Leave, api.Return}
	if !slices.Equal(events, kinds()) {
		t.Fatal(events)
	}
	for i, k := range events {
		var m meter.Meter
		if !m.Add(k) || m.Get(i+1) != 1 {
			t.Errorf("Add(%d): Get(%d) = %d", k, i+1, m.Get(i+1))
		}
	}
}

func TestZeroValue(t *testing.T) {
	var one meter.Meter
	var within struct{ a, b meter.Meter }
	list := make([]meter.Meter, 2)
	for _, m := range []*meter.Meter{&one, {}, new(meter.Meter), &within.a, &within.b, &list[0], &list[1]} {
		check(t, m, plain{})
		for _, k := range noKinds() {
			if n := m.Get(k); n != 0 {
				t.Errorf("Get(%d) = %d", k, n)
			}
		}
		p := plain{}
		add(t, m, p, api.Open, 2)
		check(t, m, p)
	}
}

func TestAddAndGetEachKind(t *testing.T) {
	for _, k := range kinds() {
		var m meter.Meter
		p := plain{}
		for i := range 5 {
			if !m.Add(k) || m.Get(k) != int64(i+1) {
				t.Errorf("Add(%d): Get = %d, not %d", k, m.Get(k), i+1)
			}
			p[k]++
			check(t, &m, p)
		}
	}
}

func TestAddOfNoKindIsNothing(t *testing.T) {
	var empty, full meter.Meter
	p := plain{}
	for _, k := range kinds() {
		add(t, &full, p, k, 12-k)
	}
	for _, k := range noKinds() {
		for _, m := range []*meter.Meter{&empty, &full} {
			if m.Add(k) {
				t.Errorf("Add(%d) = true", k)
			}
			if n := m.Get(k); n != 0 {
				t.Errorf("Get(%d) = %d", k, n)
			}
		}
		check(t, &empty, plain{})
		check(t, &full, p)
	}
}

func TestGetOfNoKindIsNothing(t *testing.T) {
	var m meter.Meter
	for _, k := range kinds() {
		add(t, &m, plain{}, k, 3)
	}
	for _, k := range noKinds() {
		if n := m.Get(k); n != 0 {
			t.Errorf("Get(%d) = %d", k, n)
		}
	}
}

func TestSum(t *testing.T) {
	var m meter.Meter
	if n := m.Sum(); n != 0 {
		t.Errorf("of nothing: %d", n)
	}
	for _, k := range kinds() {
		var one meter.Meter
		add(t, &one, plain{}, k, 7)
		if n := one.Sum(); n != 7 {
			t.Errorf("of 7 of kind %d: %d", k, n)
		}
	}
	// Twice as many of each kind as of the one below it: one that is left out, or told twice, shows.
	want := int64(0)
	for i, k := range kinds() {
		add(t, &m, plain{}, k, 1<<i)
		want += 1 << i
		if n := m.Sum(); n != want {
			t.Errorf("up to kind %d: %d, not %d", k, n, want)
		}
	}
	if m.Sum() != 2047 {
		t.Errorf("of all: %d", m.Sum())
	}
}

func TestManyOfAKind(t *testing.T) {
	const many = 1<<20 + 3
	var m meter.Meter
	for range many {
		m.Add(api.Move)
		m.Add(api.Return)
	}
	check(t, &m, plain{api.Move: many, api.Return: many})
}

func TestReset(t *testing.T) {
	var m meter.Meter
	m.Reset()
	check(t, &m, plain{})
	for range 3 {
		p := plain{}
		for _, k := range kinds() {
			add(t, &m, p, k, k)
		}
		check(t, &m, p)
		m.Reset()
		check(t, &m, plain{})
		m.Reset()
		check(t, &m, plain{})
	}
	for _, k := range kinds() {
		add(t, &m, plain{}, k, 4)
		m.Reset()
		check(t, &m, plain{})
		p := plain{}
		add(t, &m, p, k, 1)
		check(t, &m, p)
		m.Reset()
	}
}

// isMost tells what Most has to answer of m.
func isMost(t *testing.T, m *meter.Meter, kind int, is bool) {
	t.Helper()
	if k, ok := m.Most(); k != kind || ok != is {
		t.Errorf("Most() = %d, %t, not %d, %t", k, ok, kind, is)
	}
}

func TestMost(t *testing.T) {
	var m meter.Meter
	isMost(t, &m, 0, false)
	m.Add(0)
	m.Add(12)
	isMost(t, &m, 0, false)
	for _, k := range kinds() {
		var one meter.Meter
		one.Add(k)
		isMost(t, &one, k, true)
	}
	for _, k := range kinds() {
		m.Add(k)
		isMost(t, &m, api.Claim, true)
	}
	m.Add(api.Return)
	isMost(t, &m, api.Return, true)
	m.Add(api.Leave)
	isMost(t, &m, api.Leave, true)
	m.Add(api.Claim)
	isMost(t, &m, api.Claim, true)
	m.Add(api.Return)
	isMost(t, &m, api.Return, true)
	m.Reset()
	isMost(t, &m, 0, false)
	m.Add(api.Boot)
	isMost(t, &m, api.Boot, true)
}

func TestMostIsTheLeastOfSeveral(t *testing.T) {
	for _, a := range kinds() {
		for _, b := range kinds() {
			if a == b {
				continue
			}
			var m meter.Meter
			add(t, &m, plain{}, a, 3)
			add(t, &m, plain{}, b, 2)
			isMost(t, &m, a, true)
			m.Add(b)
			isMost(t, &m, min(a, b), true)
			m.Add(b)
			isMost(t, &m, b, true)
		}
	}
}

func TestMetersApart(t *testing.T) {
	var one, other meter.Meter
	p, q := plain{}, plain{}
	for _, k := range kinds() {
		add(t, &one, p, k, k)
		check(t, &other, q)
	}
	add(t, &other, q, api.Clear, 5)
	check(t, &one, p)
	check(t, &other, q)
	one.Reset()
	check(t, &one, plain{})
	check(t, &other, q)
	other.Reset()
	add(t, &one, plain{}, api.Found, 1)
	check(t, &one, plain{api.Found: 1})
	check(t, &other, plain{})
}

// reset stands for a Reset among the kinds of a play.
const reset = math.MaxInt - 7

// play does what the play says to a new meter, and asks it all behind each deed.
func play(t *testing.T, deeds []int) {
	t.Helper()
	var m meter.Meter
	p := plain{}
	for _, d := range deeds {
		if d == reset {
			m.Reset()
			clear(p)
		} else {
			add(t, &m, p, d, 1)
		}
		check(t, &m, p)
	}
}

func TestEachShortPlay(t *testing.T) {
	deeds := []int{api.Claim, api.Award, api.Leave, api.Return, 0, 12, reset}
	var from func(done []int)
	from = func(done []int) {
		if len(done) == 5 {
			play(t, done)
			return
		}
		for _, d := range deeds {
			from(append(slices.Clone(done), d))
		}
	}
	from(nil)
}

func TestLongPlays(t *testing.T) {
	n := uint32(1)
	next := func(below int) int {
		n = n*1664525 + 1013904223
		return int(n>>8) % below
	}
	wrong := noKinds()
	for range 20 {
		var deeds []int
		for range 400 {
			switch x := next(100); {
			case x == 0:
				deeds = append(deeds, reset)
			case x < 10:
				deeds = append(deeds, wrong[next(len(wrong))])
			default:
				deeds = append(deeds, 1+next(11))
			}
		}
		play(t, deeds)
	}
}

func TestSeveralCountAtTheSameTime(t *testing.T) {
	const several, each = 8, 2000
	var m meter.Meter
	var wait sync.WaitGroup
	begin := make(chan struct{})
	for range several {
		wait.Go(func() {
			<-begin
			for i := range each {
				k := kinds()[i%11]
				if !m.Add(k) || !m.Add(api.Move) || m.Add(12) || m.Add(-i) {
					t.Errorf("Add at %d", i)
				}
			}
		})
	}
	close(begin)
	wait.Wait()
	p := plain{}
	for i := range each {
		p[kinds()[i%11]] += several
		p[api.Move] += several
	}
	check(t, &m, p)
}

func TestAskedWhileOthersCount(t *testing.T) {
	const several, each = 4, 5000
	var m meter.Meter
	m.Add(api.Join)
	var wait sync.WaitGroup
	begin := make(chan struct{})
	for range several {
		wait.Go(func() {
			<-begin
			for range each {
				m.Add(api.Join)
				m.Add(api.Leave)
			}
		})
		wait.Go(func() {
			<-begin
			var got, sum int64
			for range each {
				g, s := m.Get(api.Leave), m.Sum()
				if g < got || s < sum || g > s {
					t.Errorf("Get %d behind %d, Sum %d behind %d", g, got, s, sum)
				}
				got, sum = g, s
				if k, is := m.Most(); !is || k != api.Join && k != api.Leave {
					t.Errorf("Most() = %d, %t", k, is)
				}
			}
		})
	}
	close(begin)
	wait.Wait()
	check(t, &m, plain{api.Join: several*each + 1, api.Leave: several * each})
}

func TestResetWhileOthersCount(t *testing.T) {
	const several, each = 4, 5000
	var m meter.Meter
	var wait sync.WaitGroup
	begin := make(chan struct{})
	for range several {
		wait.Go(func() {
			<-begin
			for i := range each {
				m.Add(kinds()[i%11])
			}
		})
		wait.Go(func() {
			<-begin
			for range each {
				m.Reset()
				if n := m.Sum(); n < 0 || n > several*each {
					t.Errorf("Sum() = %d", n)
				}
			}
		})
	}
	close(begin)
	wait.Wait()
	m.Reset()
	check(t, &m, plain{})
}
