package mail_test

import (
	"bytes"
	"fmt"
	"math"
	"slices"
	"testing"

	"paternoster/api"
	"paternoster/mail"
)

// P6.1

// it is an item of these bytes.
func it(to int, b ...byte) mail.Item {
	return mail.Item{To: to, Bytes: b}
}

// numbered are n items, no two of them the same.
func numbered(n int) []mail.Item {
	var l []mail.Item
	for i := range n {
		l = append(l, it(i%api.MaxCars, byte(i), byte(i>>8), 7))
	}
	return l
}

// mailOf is a mail into which these were put, one by one.
func mailOf(t *testing.T, items ...mail.Item) *mail.Mail {
	t.Helper()
	m := new(mail.Mail)
	for i, x := range items {
		if !m.Put(x.To, x.Bytes) {
			t.Fatalf("Put of the %d-th of %d: false", i, len(items))
		}
	}
	return m
}

// sameItem is whether a and b are to the same one, of the same bytes; no bytes and none at all are the same.
func sameItem(a, b mail.Item) bool {
	return a.To == b.To && bytes.Equal(a.Bytes, b.Bytes)
}

// check holds what m tells against what it has to.
func check(t *testing.T, what string, m *mail.Mail, lost int, want ...mail.Item) {
	t.Helper()
	if m.Len() != len(want) || m.Lost() != lost {
		t.Errorf("%s: Len %d, Lost %d, not %d, %d", what, m.Len(), m.Lost(), len(want), lost)
	}
	got := m.All()
	if len(got) != len(want) {
		t.Errorf("%s: All has %d, not %d", what, len(got), len(want))
		return
	}
	for i := range want {
		if !sameItem(got[i], want[i]) {
			t.Errorf("%s: the %d-th of All is %v, not %v", what, i, got[i], want[i])
			return
		}
	}
}

// checkTake holds what Take answers against the item that it has to take.
func checkTake(t *testing.T, what string, m *mail.Mail, i int, want mail.Item) {
	t.Helper()
	if x, ok := m.Take(i); !ok || !sameItem(x, want) {
		t.Errorf("%s: Take(%d) = %v, %v, not %v", what, i, x, ok, want)
	}
}

// outside are places at which a mail of so many has none.
func outside(n int) []int {
	return []int{-1, -2, math.MinInt, n, n + 1, math.MaxInt}
}

// checkOutside holds what is answered for places where there is none, of which nothing may be changed, nor be Lost.
func checkOutside(t *testing.T, what string, m *mail.Mail) {
	t.Helper()
	before, lost, n := m.All(), m.Lost(), m.Len()
	for _, i := range outside(n) {
		if x, ok := m.Take(i); ok || x.To != 0 || len(x.Bytes) > 0 {
			t.Errorf("%s: Take(%d) = %v, %v, of %d", what, i, x, ok, n)
		}
		if m.Copy(i) {
			t.Errorf("%s: Copy(%d), of %d", what, i, n)
		}
		for _, k := range append(outside(n), 0, n/2, n-1) {
			if m.Swap(i, k) || m.Swap(k, i) {
				t.Errorf("%s: Swap of %d and %d, of %d", what, i, k, n)
			}
		}
	}
	check(t, what, m, lost, before...)
}

// scribble writes over b, its spare room too.
func scribble(b []byte) {
	b = b[:cap(b)]
	for i := range b {
		b[i] ^= 0xff
	}
}

// scribbleAll writes over all of an answer, its spare room too.
func scribbleAll(l []mail.Item) {
	for _, x := range l {
		scribble(x.Bytes)
	}
	l = l[:cap(l)]
	for i := range l {
		l[i] = it(-77, 77)
	}
}

func TestZeroValue(t *testing.T) {
	var m mail.Mail
	check(t, "a zero value", &m, 0)
	checkOutside(t, "a zero value", &m)
	if m.Swap(0, 0) {
		t.Error("Swap(0, 0) where there is none")
	}
	c := m.Clone()
	check(t, "a Clone of it", c, 0)
	checkOutside(t, "a Clone of it", c)
	if !m.Put(3, []byte{1}) || !c.Put(4, nil) {
		t.Error("Put into a zero value, and its Clone")
	}
	check(t, "a zero value, one put", &m, 0, it(3, 1))
	check(t, "a Clone of it, one put", c, 0, it(4))
}

func TestPut(t *testing.T) {
	var each []byte
	for b := range 256 {
		each = append(each, byte(b))
	}
	l := []mail.Item{
		it(0, 80, 1, 0, 0, 0, 0, 0), it(15, 255), it(16, 0), it(-1, 0, 0), it(math.MinInt, 128), it(math.MaxInt, 0xc3, 0x28, 0xff),
		it(2, each...), it(0, 80, 1, 0, 0, 0, 0, 0), it(5, bytes.Repeat(each, 64)...),
	}
	for n := range len(l) + 1 {
		m := mailOf(t, l[:n]...)
		check(t, "put one by one", m, 0, l[:n]...)
		checkOutside(t, "put one by one", m)
	}
}

func TestPutOfNoBytes(t *testing.T) {
	m := new(mail.Mail)
	if !m.Put(1, nil) || !m.Put(2, []byte{}) || !m.Put(3, make([]byte, 0, 8)) || !m.Put(4, []byte{5}) || !m.Copy(0) {
		t.Error("Put of no bytes")
	}
	check(t, "no bytes", m, 0, it(1), it(2), it(3), it(4, 5), it(1))
	checkTake(t, "no bytes", m, 1, it(2))
	checkTake(t, "no bytes", m, 0, it(1))
	check(t, "no bytes, two taken", m, 0, it(3), it(4, 5), it(1))
}

func TestPutWithoutRoom(t *testing.T) {
	want := numbered(api.MaxBuffer)
	m := mailOf(t, want[:api.MaxBuffer-1]...)
	check(t, "one less than MaxBuffer", m, 0, want[:api.MaxBuffer-1]...)
	last := want[api.MaxBuffer-1]
	if !m.Put(last.To, last.Bytes) {
		t.Error("Put of the last that there is room for")
	}
	check(t, "MaxBuffer", m, 0, want...)
	for n := 1; n < 6; n++ {
		if m.Put(9, []byte{99}) {
			t.Error("Put without room")
		}
		check(t, "MaxBuffer, and more", m, n, want...)
	}
	if m.Put(9, nil) {
		t.Error("Put of no bytes without room")
	}
	checkOutside(t, "MaxBuffer, and more", m)
	check(t, "MaxBuffer, and more", m, 6, want...)
}

func TestRoomAgain(t *testing.T) {
	want := numbered(api.MaxBuffer)
	for _, i := range []int{0, 1, api.MaxBuffer / 2, api.MaxBuffer - 1} {
		m := mailOf(t, want...)
		m.Put(9, []byte{99})
		checkTake(t, "full", m, i, want[i])
		left := slices.Delete(slices.Clone(want), i, i+1)
		check(t, "one taken of MaxBuffer", m, 1, left...)
		if !m.Put(9, []byte{98}) || m.Put(9, []byte{97}) {
			t.Error("Put behind a Take")
		}
		check(t, "one put behind it", m, 2, append(left, it(9, 98))...)
		m.Take(i)
		left = m.All()
		if !m.Copy(1) || m.Copy(1) {
			t.Error("Copy behind a Take")
		}
		check(t, "one copied behind it", m, 3, append(left, left[1])...)
	}
}

func TestTake(t *testing.T) {
	for _, n := range []int{1, 2, 3, 6, 100} {
		l := numbered(n)
		for i := range l {
			m := mailOf(t, l...)
			checkTake(t, "one", m, i, l[i])
			left := slices.Delete(slices.Clone(l), i, i+1)
			check(t, "one taken", m, 0, left...)
			checkOutside(t, "one taken", m)
			m.Put(8, []byte{88})
			check(t, "one put behind it", m, 0, append(left, it(8, 88))...)
		}
	}
}

func TestTakeToTheLast(t *testing.T) {
	for _, n := range []int{1, 2, 5, api.MaxBuffer} {
		l := numbered(n)
		front, back := mailOf(t, l...), mailOf(t, l...)
		for i := range n {
			checkTake(t, "from the first on", front, 0, l[i])
			checkTake(t, "from the last on", back, n-1-i, l[n-1-i])
			if front.Len() != n-1-i || back.Len() != n-1-i {
				t.Errorf("%d taken of %d: Len %d and %d", i+1, n, front.Len(), back.Len())
			}
		}
		for _, m := range []*mail.Mail{front, back} {
			check(t, "all taken", m, 0)
			checkOutside(t, "all taken", m)
			m.Put(1, []byte{2})
			check(t, "put anew", m, 0, it(1, 2))
		}
	}
}

func TestCopyExample(t *testing.T) {
	m := mailOf(t, it(1, 80, 1))
	if !m.Copy(0) {
		t.Error("Copy(0)")
	}
	check(t, "Put, Copy(0)", m, 0, it(1, 80, 1), it(1, 80, 1))
}

func TestCopy(t *testing.T) {
	for _, n := range []int{1, 2, 3, 6, 100} {
		l := numbered(n)
		for i := range l {
			m := mailOf(t, l...)
			if !m.Copy(i) {
				t.Errorf("Copy(%d) of %d", i, n)
			}
			check(t, "one copied", m, 0, append(slices.Clone(l), l[i])...)
			if !m.Copy(n) || !m.Copy(i) {
				t.Errorf("Copy(%d) and Copy(%d) of %d", n, i, n+1)
			}
			check(t, "copied thrice", m, 0, append(slices.Clone(l), l[i], l[i], l[i])...)
			checkOutside(t, "copied thrice", m)
		}
	}
}

func TestCopyWithoutRoom(t *testing.T) {
	want := numbered(api.MaxBuffer)
	m := mailOf(t, want[:api.MaxBuffer-1]...)
	want[api.MaxBuffer-1] = want[5]
	if !m.Copy(5) {
		t.Error("Copy as the last that there is room for")
	}
	check(t, "MaxBuffer", m, 0, want...)
	for n, i := range []int{0, 5, api.MaxBuffer / 2, api.MaxBuffer - 1} {
		if m.Copy(i) {
			t.Errorf("Copy(%d) without room", i)
		}
		check(t, "MaxBuffer, and more", m, n+1, want...)
	}
	checkOutside(t, "MaxBuffer, and more", m) // where there is none, none is Lost
	m.Put(1, nil)
	check(t, "Lost by Copy and by Put", m, 5, want...)
}

func TestSwap(t *testing.T) {
	for n := 1; n < 7; n++ {
		l := numbered(n)
		for i := range n {
			for k := range n {
				m := mailOf(t, l...)
				want := slices.Clone(l)
				want[i], want[k] = want[k], want[i]
				if !m.Swap(i, k) {
					t.Errorf("Swap(%d, %d) of %d", i, k, n)
				}
				check(t, "once", m, 0, want...)
				checkOutside(t, "once", m)
				if !m.Swap(k, i) {
					t.Errorf("Swap(%d, %d) of %d, again", k, i, n)
				}
				check(t, "twice", m, 0, l...)
			}
		}
	}
}

func TestSwapOfTheFirstAndTheLast(t *testing.T) {
	l := numbered(api.MaxBuffer)
	m := mailOf(t, l...)
	m.Put(0, nil)
	l[0], l[api.MaxBuffer-1] = l[api.MaxBuffer-1], l[0]
	if !m.Swap(0, api.MaxBuffer-1) || m.Swap(0, api.MaxBuffer) || m.Swap(-1, api.MaxBuffer-1) {
		t.Error("Swap of the first and the last")
	}
	check(t, "full", m, 1, l...)
}

func TestBytesHandedIn(t *testing.T) {
	room := []byte{1, 2, 3, 4, 5}
	m := new(mail.Mail)
	m.Put(0, room[1:3])
	m.Put(1, room[1:3])
	m.Put(2, room[:0])
	if !bytes.Equal(room, []byte{1, 2, 3, 4, 5}) {
		t.Errorf("what was handed in became %v", room)
	}
	scribble(room)
	check(t, "written into", m, 0, it(0, 2, 3), it(1, 2, 3), it(2))
	m.Copy(0)
	m.Swap(0, 1)
	m.Clone().Put(5, []byte{9, 9, 9})
	before := slices.Clone(room)
	for range m.Len() {
		x, _ := m.Take(0)
		scribble(x.Bytes)
	}
	if !bytes.Equal(room, before) {
		t.Errorf("what was handed in became %v, not %v", room, before)
	}
}

func TestBytesTakenOut(t *testing.T) {
	for _, size := range []int{0, 1, 3, 8, 15, 16, 33, 1000} {
		b := bytes.Repeat([]byte{5}, size)
		m := mailOf(t, it(1, b...), it(2, b...))
		m.Copy(0)
		m.Copy(0)
		c, told := m.Clone(), m.All()
		x, _ := m.Take(0)
		y, _ := m.Take(1)
		scribble(x.Bytes)
		if !sameItem(y, it(1, b...)) {
			t.Errorf("size %d: another one taken shows it: %v", size, y)
		}
		_ = append(y.Bytes, 66)
		scribble(y.Bytes)
		check(t, "written into", m, 0, it(2, b...), it(1, b...))
		check(t, "a Clone", c, 0, it(1, b...), it(2, b...), it(1, b...), it(1, b...))
		for i, z := range told {
			if !bytes.Equal(z.Bytes, b) {
				t.Errorf("size %d: the %d-th told by All shows it: %v", size, i, z)
			}
		}
	}
}

func TestBytesToldByAll(t *testing.T) {
	for _, size := range []int{0, 1, 3, 8, 15, 16, 33, 1000} {
		b := bytes.Repeat([]byte{5}, size)
		want := []mail.Item{it(1, b...), it(2, b...), it(1, b...)}
		m := mailOf(t, want[:2]...)
		m.Copy(0)
		c, one, other := m.Clone(), m.All(), m.All()
		scribble(one[0].Bytes)
		_ = append(one[0].Bytes, 66)
		for i := 1; i < len(one); i++ {
			if !sameItem(one[i], want[i]) {
				t.Errorf("size %d: the %d-th of the same answer shows it: %v", size, i, one[i])
			}
		}
		_ = append(one, it(66, 66))
		scribbleAll(one)
		if !slices.EqualFunc(other, want, sameItem) {
			t.Errorf("size %d: another answer shows it: %v", size, other)
		}
		check(t, "written into", m, 0, want...)
		check(t, "a Clone", c, 0, want...)
		m.Put(3, b)
		check(t, "put behind it", m, 0, append(want, it(3, b...))...)
	}
}

func TestAllIsWhatItWas(t *testing.T) {
	l := numbered(4)
	m := mailOf(t, l...)
	told := m.All()
	m.Swap(0, 3)
	m.Take(1)
	m.Put(9, []byte{9})
	if !slices.EqualFunc(told, l, sameItem) {
		t.Errorf("All's answer became %v", told)
	}
}

// ways are what may be done to one of two mails, and not be seen in the other.
func ways() map[string]func(m *mail.Mail) {
	return map[string]func(m *mail.Mail){
		"Put":       func(m *mail.Mail) { m.Put(9, []byte{9}) },
		"Put twice": func(m *mail.Mail) { m.Put(9, []byte{9}); m.Put(8, nil) },
		"Take":      func(m *mail.Mail) { m.Take(0) },
		"Take, Put": func(m *mail.Mail) { m.Take(1); m.Put(9, []byte{9}) },
		"Copy":      func(m *mail.Mail) { m.Copy(1) },
		"Swap":      func(m *mail.Mail) { m.Swap(0, 1) },
		"Take all": func(m *mail.Mail) {
			for range m.Len() {
				m.Take(0)
			}
		},
	}
}

func TestClone(t *testing.T) {
	for _, n := range []int{0, 1, 2, 3, 5, 8, api.MaxBuffer - 1, api.MaxBuffer} {
		l := numbered(n)
		for what, do := range ways() {
			m := mailOf(t, l...)
			do(m.Clone())
			check(t, what+" in a Clone", m, 0, l...)
			c := m.Clone()
			do(m)
			check(t, what+" behind a Clone", c, 0, l...)
			want, lost := m.All(), m.Lost()
			do(c)
			check(t, what+" in both", c, lost, want...)
		}
	}
}

func TestCloneOfOneWithSpareRoom(t *testing.T) {
	l := numbered(6)
	m := mailOf(t, l...)
	m.Take(5)
	c := m.Clone()
	m.Put(1, []byte{1})
	c.Put(2, []byte{2})
	check(t, "what it was made of", m, 0, append(numbered(5), it(1, 1))...)
	check(t, "a Clone", c, 0, append(numbered(5), it(2, 2))...)
}

func TestCloneHasWhatWasLost(t *testing.T) {
	l := numbered(api.MaxBuffer)
	m := mailOf(t, l...)
	m.Put(1, nil)
	m.Copy(0)
	c := m.Clone()
	check(t, "a Clone", c, 2, l...)
	c.Put(1, nil)
	check(t, "one more Lost in the Clone", c, 3, l...)
	check(t, "what it was made of", m, 2, l...)
	m.Put(1, nil)
	m.Put(1, nil)
	check(t, "two more Lost", m, 4, l...)
	check(t, "the Clone", c, 3, l...)
	m.Take(0)
	check(t, "a Take takes nothing of what was Lost", m, 4, l[1:]...)
}

// told is a plain telling of the chapter, against which plays are held. Its lists are never written into.
type told struct {
	items []mail.Item
	lost  int
}

func (p *told) has(i int) bool { return i >= 0 && i < len(p.items) }

func (p *told) put(x mail.Item) bool {
	if len(p.items) == api.MaxBuffer {
		p.lost++
		return false
	}
	p.items = append(slices.Clone(p.items), x)
	return true
}

func (p *told) swap(i, k int) bool {
	if !p.has(i) || !p.has(k) {
		return false
	}
	p.items = slices.Clone(p.items)
	p.items[i], p.items[k] = p.items[k], p.items[i]
	return true
}

func (p *told) take(i int) (mail.Item, bool) {
	if !p.has(i) {
		return mail.Item{}, false
	}
	x := p.items[i]
	p.items = slices.Concat(p.items[:i], p.items[i+1:])
	return x, true
}

// kinds is how many calls step knows.
const kinds = 9

// step makes the call of that kind, with places from base on, on m and on p: the mail that it goes on with, and whether they answer the same.
func step(m *mail.Mail, p *told, kind, base, number int) (*mail.Mail, bool) {
	switch kind {
	case 0:
		x := it(number, byte(number), 1)
		return m, m.Put(x.To, x.Bytes) == p.put(x)
	case 1, 2, 3:
		i := base + kind - 1
		x, ok := m.Take(i)
		y, is := p.take(i)
		return m, ok == is && sameItem(x, y)
	case 4, 5:
		i := base + kind - 4
		return m, m.Copy(i) == (p.has(i) && p.put(p.items[i]))
	case 6:
		return m, m.Swap(base, base+1) == p.swap(base, base+1)
	case 7:
		return m, m.Swap(base+2, base) == p.swap(base+2, base)
	}
	return m.Clone(), true
}

// play makes each play of so many calls, each on a Clone of m, so that none of them may be seen in m.
func play(t *testing.T, what string, m *mail.Mail, p told, base, calls int) {
	if calls == 0 {
		return
	}
	for kind := range kinds {
		q := p
		now := what + fmt.Sprint(" ", kind)
		c, same := step(m.Clone(), &q, kind, base, 10*calls+kind)
		if !same {
			t.Errorf("play%s: another answer", now)
		}
		check(t, "play"+now, c, q.lost, q.items...)
		play(t, now, c, q, base, calls-1)
	}
	check(t, "play"+what, m, p.lost, p.items...)
}

func TestEachPlay(t *testing.T) {
	for n, calls := range []int{5, 4, 4, 3} {
		play(t, fmt.Sprint(" of ", n, ":"), mailOf(t, numbered(n)...), told{items: numbered(n)}, 0, calls)
	}
}

func TestEachPlayAtTheBound(t *testing.T) {
	for _, n := range []int{api.MaxBuffer - 1, api.MaxBuffer} {
		play(t, fmt.Sprint(" of ", n, ":"), mailOf(t, numbered(n)...), told{items: numbered(n)}, api.MaxBuffer-3, 2)
	}
}
