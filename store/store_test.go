package store_test

import (
	"math"
	"slices"
	"testing"

	"paternoster/api"
	"paternoster/cell"
	"paternoster/store"
)

// most is the greatest number that may be kept.
const most = 1<<48 - 1

// puts is how many Puts a whole Save makes.
const puts = 14

// lay is the bytes of a slot, told one by one.
func lay(mark byte, r store.Record) []byte {
	b := []byte{mark}
	for _, n := range []int64{r.Count, r.Life} {
		b = append(b, byte(n>>40), byte(n>>32), byte(n>>24), byte(n>>16), byte(n>>8), byte(n))
	}
	return b
}

// newCell is a cell of these bytes.
func newCell(t *testing.T, b []byte) *cell.Cell {
	t.Helper()
	c, err := cell.New(len(b))
	if err != nil {
		t.Fatal(err)
	}
	for i, x := range b {
		if err := c.Put(i, x); err != nil {
			t.Fatal(err)
		}
	}
	return c
}

// bytesOf is what a cell has, be it down or not; the cell stays as it is.
func bytesOf(t *testing.T, c *cell.Cell) []byte {
	t.Helper()
	up := c.Clone()
	up.Back()
	b := make([]byte, up.Size())
	for i := range b {
		x, err := up.Get(i)
		if err != nil {
			t.Fatal(err)
		}
		b[i] = x
	}
	return b
}

// opened is a store of c, which has to open, and to have that record.
func opened(t *testing.T, what string, c *cell.Cell, want store.Record) *store.Store {
	t.Helper()
	s, err := store.Open(c)
	if s == nil || err != nil {
		t.Fatalf("%s: Open: %v, %v", what, s, err)
	}
	checkRecord(t, what, s, want)
	return s
}

// checkRecord holds the record that s tells, again and again, against the one that it has to.
func checkRecord(t *testing.T, what string, s *store.Store, want store.Record) {
	t.Helper()
	for range 2 {
		if r := s.Record(); r != want {
			t.Fatalf("%s: Record %v, not %v", what, r, want)
		}
	}
}

// checkNotOpened holds what Open of c answers against an error.
func checkNotOpened(t *testing.T, what string, c *cell.Cell, want error) {
	t.Helper()
	if s, err := store.Open(c); s != nil || err != want {
		t.Errorf("%s: Open: %v, %v, not nil, %v", what, s, err, want)
	}
}

// checkSave holds what Save answers against what it has to.
func checkSave(t *testing.T, what string, s *store.Store, r store.Record, want error) {
	t.Helper()
	if err := s.Save(r); err != want {
		t.Fatalf("%s: Save(%v): %v, not %v", what, r, err, want)
	}
}

// checkBytes holds what c has against what it has to.
func checkBytes(t *testing.T, what string, c *cell.Cell, want []byte) {
	t.Helper()
	if got := bytesOf(t, c); !slices.Equal(got, want) {
		t.Fatalf("%s: the cell has\n%v, not\n%v", what, got, want)
	}
}

// numbers are numbers that may be kept: each byte of its own, and both edges.
func numbers() []int64 {
	out := []int64{0, 1, 2, 127, 128, 255, 256, 257, 0x010203040506, 0xf0e0d0c0b0a0, most - 1, most}
	for i := range 48 {
		out = append(out, 1<<i)
	}
	return out
}

// outside are numbers that may not be kept.
func outside() []int64 {
	return []int64{-1, -2, math.MinInt64, -most, most + 1, most + 2, 1 << 49, math.MaxInt64}
}

// layout is what a cell has, the record that Open makes of it, and the slot that the next Save writes.
type layout struct {
	what  string
	bytes []byte
	want  store.Record
	spare int
}

// both is a layout's bytes: two slots.
func both(firstMark byte, first store.Record, secondMark byte, second store.Record) []byte {
	return append(lay(firstMark, first), lay(secondMark, second)...)
}

// layouts are cells of all kinds.
func layouts() []layout {
	zero, small, great := store.Record{}, store.Record{Count: 5, Life: 2}, store.Record{Count: 5, Life: 3}
	countful, lifeful := store.Record{Count: 9, Life: 1}, store.Record{Count: 1, Life: 9}
	return []layout{
		{"new", make([]byte, store.Size), zero, 0},
		{"none whole", both(0, small, 2, great), zero, 0},
		{"none whole, of other marks", both(255, great, 254, small), zero, 0},
		{"the first whole", both(1, small, 0, zero), small, 1},
		{"the first whole, the second greater", both(1, small, 0, great), small, 1},
		{"the first whole, the second greater and of another mark", both(1, small, 129, great), small, 1},
		{"the second whole", both(0, zero, 1, small), small, 0},
		{"the second whole, the first greater", both(0, great, 1, small), small, 0},
		{"the second whole, the first greater and of another mark", both(3, great, 1, small), small, 0},
		{"both whole, the first greater", both(1, great, 1, small), great, 1},
		{"both whole, the second greater", both(1, small, 1, great), great, 0},
		{"both the same", both(1, small, 1, small), small, 1},
		{"both of the same sum", both(1, countful, 1, lifeful), countful, 1},
		{"both of the same sum, turned round", both(1, lifeful, 1, countful), lifeful, 1},
		{"the first whole, of zeros", both(1, zero, 0, small), zero, 1},
		{"the second whole, of zeros", both(0, small, 1, zero), zero, 0},
		{"both whole, of zeros", both(1, zero, 1, zero), zero, 1},
		{"the first of zeros, the second greater", both(1, zero, 1, small), small, 0},
		{"the second of zeros, the first greater", both(1, small, 1, zero), small, 1},
		{"the greatest first", both(1, store.Record{Count: most, Life: most - 1}, 1, store.Record{Count: most - 1, Life: most - 1}), store.Record{Count: most, Life: most - 1}, 1},
		{"the greatest last", both(1, store.Record{Count: most - 1, Life: most - 1}, 1, store.Record{Count: most - 1, Life: most}), store.Record{Count: most - 1, Life: most}, 0},
		{"a greater Count, a lesser sum", both(1, store.Record{Count: 9, Life: 1}, 1, store.Record{Count: 2, Life: 300}), store.Record{Count: 2, Life: 300}, 0},
		{"a greater Life, a lesser sum", both(1, store.Record{Count: 300, Life: 2}, 1, store.Record{Count: 1, Life: 9}), store.Record{Count: 300, Life: 2}, 1},
		{"sums that are apart in their high bytes alone", both(1, store.Record{Count: 255}, 1, store.Record{Count: 1 << 40}), store.Record{Count: 1 << 40}, 0},
		{"more bytes than the slots take", append(both(1, small, 0, great), lay(1, store.Record{Count: 99, Life: 99})...), small, 1},
		{"one byte more", append(both(0, great, 1, small), 1), small, 0},
	}
}

// later is a record that may be saved behind was, in a cell of layouts.
func later(was store.Record) store.Record {
	return store.Record{Count: min(was.Count+1, most), Life: min(was.Life+1, most)}
}

// P3.1

func TestSize(t *testing.T) {
	if store.Size != 26 {
		t.Errorf("Size is %d, not 26", store.Size)
	}
}

func TestOpenOfANewCell(t *testing.T) {
	for _, size := range []int{26, 27, 39, 52, 4095, 4096} {
		c, err := cell.New(size)
		if err != nil {
			t.Fatal(err)
		}
		opened(t, "a new cell", c, store.Record{})
		checkBytes(t, "a new cell", c, make([]byte, size))
		if c.Writes() != 0 {
			t.Errorf("of %d bytes: Open writes", size)
		}
	}
}

func TestOpenOfACellTooSmall(t *testing.T) {
	full := both(1, store.Record{Count: 1, Life: 1}, 1, store.Record{Count: 2, Life: 2})
	for _, size := range []int{1, 2, 12, 13, 14, 24, 25} {
		c := newCell(t, full[:size])
		checkNotOpened(t, "too small", c, api.ErrRange)
		c.Arm(1)
		c.Put(0, 9)
		checkNotOpened(t, "too small, and down", c, api.ErrRange)
		checkBytes(t, "too small", c, full[:size])
	}
}

func TestOpenOfACellThatIsDown(t *testing.T) {
	for _, x := range layouts() {
		c := newCell(t, x.bytes)
		c.Arm(1)
		c.Put(0, 9)
		checkNotOpened(t, x.what, c, api.ErrPower)
		if !c.Down() {
			t.Errorf("%s: Open brings the power back", x.what)
		}
		c.Back()
		opened(t, x.what, c, x.want)
	}
}

func TestOpen(t *testing.T) {
	for _, x := range layouts() {
		c := newCell(t, x.bytes)
		writes := c.Writes()
		for range 2 {
			opened(t, x.what, c, x.want)
		}
		if c.Writes() != writes {
			t.Errorf("%s: Open writes", x.what)
		}
		checkBytes(t, x.what, c, x.bytes)
		c.Arm(1)
		opened(t, x.what+", armed", c, x.want)
		if err := c.Put(0, 1); err != api.ErrPower {
			t.Errorf("%s: Open disarms: %v", x.what, err)
		}
	}
}

func TestOpenOfEachMark(t *testing.T) {
	r, other := store.Record{Count: 7, Life: 8}, store.Record{Count: 3, Life: 4}
	for mark := range 256 {
		alone, aside := store.Record{}, other
		if mark == 1 {
			alone, aside = r, r
		}
		opened(t, "the first's mark", newCell(t, both(byte(mark), r, 0, other)), alone)
		opened(t, "the second's mark", newCell(t, both(0, other, byte(mark), r)), alone)
		opened(t, "the first's mark, the second whole", newCell(t, both(byte(mark), r, 1, other)), aside)
		opened(t, "the second's mark, the first whole", newCell(t, both(1, other, byte(mark), r)), aside)
	}
}

func TestOpenOfEachNumber(t *testing.T) {
	for _, n := range numbers() {
		for _, r := range []store.Record{{Count: n}, {Life: n}, {Count: n, Life: most - n}, {Count: n, Life: n}} {
			opened(t, "in the first", newCell(t, both(1, r, 0, store.Record{})), r)
			opened(t, "in the second", newCell(t, both(0, store.Record{}, 1, r)), r)
		}
	}
}

func TestOpenOfEachPair(t *testing.T) {
	var all []store.Record
	for _, count := range []int64{0, 1, 2, 255, 256, 1 << 32, most - 1, most} {
		for _, life := range []int64{0, 1, 2, 255, 256, 1 << 32, most - 1, most} {
			all = append(all, store.Record{Count: count, Life: life})
		}
	}
	for _, first := range all {
		for _, second := range all {
			want := first
			if second.Count+second.Life > first.Count+first.Life {
				want = second
			}
			opened(t, "both whole", newCell(t, both(1, first, 1, second)), want)
		}
	}
}

func TestRecordIsWhatWasOpenedOrSavedLast(t *testing.T) {
	was := store.Record{Count: 5, Life: 2}
	c := newCell(t, both(1, was, 0, store.Record{}))
	s, other := opened(t, "the one", c, was), opened(t, "the other", c, was)
	next := store.Record{Count: 6, Life: 3}
	checkSave(t, "the one", s, next, nil)
	checkRecord(t, "the one", s, next)
	checkRecord(t, "the other, that saved nothing", other, was)
	for i := range c.Size() {
		c.Put(i, 0)
	}
	checkRecord(t, "behind Puts into the cell", s, next)
	c.Arm(1)
	c.Put(0, 1)
	checkRecord(t, "while the cell is down", s, next)
}

// P3.2

// checkRefused holds a Save that is refused: s, its cell, and what its cell is armed for stay as they are.
func checkRefused(t *testing.T, what string, c *cell.Cell, s *store.Store, r store.Record, want error) {
	t.Helper()
	was, have, writes := s.Record(), bytesOf(t, c), c.Writes()
	checkSave(t, what, s, r, want)
	c.Arm(1)
	checkSave(t, what+", armed", s, r, want)
	if c.Down() {
		t.Errorf("%s: Save(%v) is refused, and makes a Put", what, r)
	}
	c.Put(0, 99)
	checkSave(t, what+", down", s, r, want)
	c.Back()
	if c.Writes() != writes {
		t.Errorf("%s: Save(%v) is refused, and writes", what, r)
	}
	checkRecord(t, what, s, was)
	checkBytes(t, what, c, have)
}

func TestSaveOutOfRange(t *testing.T) {
	for _, x := range layouts() {
		c := newCell(t, x.bytes)
		s := opened(t, x.what, c, x.want)
		for _, n := range outside() {
			for _, m := range []int64{0, 1, most, n, -1, most + 1} {
				checkRefused(t, x.what, c, s, store.Record{Count: n, Life: m}, api.ErrRange)
				checkRefused(t, x.what, c, s, store.Record{Count: m, Life: n}, api.ErrRange)
			}
		}
	}
}

func TestSaveAtTheEdges(t *testing.T) {
	for _, r := range []store.Record{{Count: most}, {Life: most}, {Count: most, Life: most}, {Count: most - 1, Life: most}, {Count: 1}, {Life: 1}} {
		c := newCell(t, make([]byte, store.Size))
		s := opened(t, "at the edges", c, store.Record{})
		checkSave(t, "at the edges", s, r, nil)
		checkRecord(t, "at the edges", s, r)
		opened(t, "at the edges, anew", c, r)
		checkRefused(t, "the same one", c, s, r, api.ErrOrder)
	}
}

func TestSaveOfEachNumber(t *testing.T) {
	for _, n := range numbers() {
		for _, r := range []store.Record{{Count: n, Life: 1}, {Count: 1, Life: n}, {Count: n, Life: most - n}} {
			c := newCell(t, make([]byte, store.Size))
			s := opened(t, "each number", c, store.Record{})
			checkSave(t, "each number", s, r, nil)
			checkBytes(t, "each number", c, both(1, r, 0, store.Record{}))
			opened(t, "each number, anew", c, r)
		}
	}
}

func TestSaveOutOfOrder(t *testing.T) {
	for _, was := range []store.Record{{Count: 5, Life: 7}, {Count: 1, Life: most - 1}, {Count: 1 << 32, Life: 256}, {Count: most - 1, Life: 1}} {
		for count := was.Count - 1; count <= was.Count+1; count++ {
			for life := was.Life - 1; life <= was.Life+1; life++ {
				r := store.Record{Count: count, Life: life}
				c := newCell(t, both(1, was, 0, store.Record{}))
				s := opened(t, "in order or not", c, was)
				if count < was.Count || life < was.Life || r == was {
					checkRefused(t, "out of order", c, s, r, api.ErrOrder)
					continue
				}
				checkSave(t, "in order", s, r, nil)
				checkRecord(t, "in order", s, r)
			}
		}
	}
}

func TestSaveWhereOneFallsFar(t *testing.T) {
	was := store.Record{Count: 1000, Life: 1000}
	c := newCell(t, both(0, was, 1, was))
	s := opened(t, "far", c, was)
	for _, r := range []store.Record{{}, {Count: most}, {Life: most}, {Count: most, Life: 999}, {Count: 999, Life: most}, {Count: 1000, Life: 999}, {Count: 999, Life: 1000}, was} {
		checkRefused(t, "far", c, s, r, api.ErrOrder)
	}
}

func TestSaveOfZerosIsTheSame(t *testing.T) {
	for _, x := range layouts() {
		if x.want != (store.Record{}) {
			continue
		}
		c := newCell(t, x.bytes)
		checkRefused(t, x.what, c, opened(t, x.what, c, x.want), store.Record{}, api.ErrOrder)
	}
}

func TestOrderIsHeldAgainstWhatWasSavedLast(t *testing.T) {
	c := newCell(t, make([]byte, store.Size))
	s := opened(t, "new", c, store.Record{})
	checkSave(t, "the first", s, store.Record{Count: 4, Life: 4}, nil)
	checkRefused(t, "the first again", c, s, store.Record{Count: 4, Life: 4}, api.ErrOrder)
	c.Arm(5)
	checkSave(t, "one that is cut", s, store.Record{Count: 9, Life: 9}, api.ErrPower)
	c.Back()
	checkRefused(t, "the one ahead of the cut", c, s, store.Record{Count: 4, Life: 4}, api.ErrOrder)
	checkSave(t, "less than what was cut", s, store.Record{Count: 4, Life: 5}, nil)
	checkRefused(t, "less than what was saved", c, s, store.Record{Count: 5, Life: 4}, api.ErrOrder)
}

func TestSaveWritesTheSpareSlot(t *testing.T) {
	for _, x := range layouts() {
		c := newCell(t, x.bytes)
		s := opened(t, x.what, c, x.want)
		have := slices.Clone(x.bytes)
		for k := range 4 {
			r, writes := later(s.Record()), c.Writes()
			checkSave(t, x.what, s, r, nil)
			copy(have[(x.spare+k)%2*13:], lay(1, r)) // turn by turn: the one saved last is never the next one's
			checkBytes(t, x.what, c, have)
			checkRecord(t, x.what, s, r)
			if c.Writes() != writes+puts {
				t.Errorf("%s: %d writes, not %d", x.what, c.Writes()-writes, puts)
			}
			opened(t, x.what+", anew", c, r)
			if r == (store.Record{Count: most, Life: most}) {
				break
			}
		}
	}
}

func TestSaveOnACellThatIsDown(t *testing.T) {
	for _, x := range layouts() {
		c := newCell(t, x.bytes)
		s := opened(t, x.what, c, x.want)
		c.Arm(1)
		c.Put(0, 99)
		r := later(x.want)
		for range 2 {
			checkSave(t, x.what, s, r, api.ErrPower)
		}
		checkRecord(t, x.what, s, x.want)
		checkBytes(t, x.what, c, x.bytes)
		c.Back()
		checkSave(t, x.what+", back", s, r, nil)
		opened(t, x.what+", back", c, r)
	}
}

// torn is what a cell of have has, where the power goes at the n-th Put of a Save of r into that slot.
func torn(have []byte, slot int, r store.Record, n int) []byte {
	out := slices.Clone(have)
	at := slot * 13
	for k := 1; k < n && k <= puts; k++ {
		switch k {
		case 1:
			out[at] = 0
		case puts:
			out[at] = 1
		default:
			out[at+k-1] = lay(1, r)[k-1]
		}
	}
	return out
}

func TestTheOrderOfWrites(t *testing.T) {
	r := store.Record{Count: 0x616263646566, Life: 0x818283848586}
	for _, x := range layouts() {
		if x.want.Count > r.Count {
			continue
		}
		for n := 1; n <= puts+2; n++ {
			c := newCell(t, x.bytes)
			s := opened(t, x.what, c, x.want)
			writes := c.Writes()
			c.Arm(n)
			var err error
			if n <= puts {
				err = api.ErrPower
			}
			checkSave(t, x.what, s, r, err)
			checkBytes(t, x.what, c, torn(x.bytes, x.spare, r, n))
			if c.Down() != (n <= puts) || c.Writes() != writes+min(n-1, puts) {
				t.Fatalf("%s, cut at %d: Down %v, %d writes", x.what, n, c.Down(), c.Writes()-writes)
			}
		}
	}
}

// P3.3

func TestCutAtEachByte(t *testing.T) {
	for _, x := range layouts() {
		r := later(x.want)
		for n := 1; n <= puts+1; n++ {
			c := newCell(t, x.bytes)
			s := opened(t, x.what, c, x.want)
			c.Arm(n)
			want := r
			var err error
			if n <= puts {
				want, err = x.want, api.ErrPower
			}
			checkSave(t, x.what, s, r, err)
			checkRecord(t, x.what, s, want)
			c.Back()
			opened(t, x.what+", anew", c, want)
			checkRecord(t, x.what+", back", s, want)
		}
	}
}

// saveCut saves one that is greater than was, with the power gone at the n-th Put of it, and back: what has to be kept then.
func saveCut(t *testing.T, what string, c *cell.Cell, s *store.Store, was store.Record, n int) store.Record {
	t.Helper()
	r := store.Record{Count: was.Count + int64(n)*255, Life: was.Life + int64(n%3)}
	c.Arm(n)
	if n > puts {
		checkSave(t, what, s, r, nil)
	} else {
		checkSave(t, what, s, r, api.ErrPower)
		r = was
	}
	c.Back()
	checkRecord(t, what, s, r)
	return r
}

func TestCutsAgainAndAgain(t *testing.T) {
	for _, x := range layouts() {
		if x.want.Count > most/2 || x.want.Life > most/2 {
			continue
		}
		for number := range (puts + 1) * (puts + 1) * (puts + 1) {
			// Once with one store all along, once with one opened anew behind each Back.
			for _, anew := range []bool{false, true} {
				c := newCell(t, x.bytes)
				s, want := opened(t, x.what, c, x.want), x.want
				for rest, k := number, 0; k < 3; k++ {
					want = saveCut(t, x.what, c, s, want, rest%(puts+1)+1)
					rest /= puts + 1
					if other := opened(t, x.what+", anew", c, want); anew {
						s = other
					}
				}
				next := store.Record{Count: want.Count, Life: want.Life + 1}
				checkSave(t, x.what+", at last", s, next, nil)
				opened(t, x.what+", at last", c, next)
			}
		}
	}
}

func TestStoresStandAlone(t *testing.T) {
	first, second := newCell(t, make([]byte, store.Size)), newCell(t, make([]byte, store.Size))
	one, other := opened(t, "one", first, store.Record{}), opened(t, "other", second, store.Record{})
	first.Arm(3)
	checkSave(t, "one", one, store.Record{Count: 1}, api.ErrPower)
	checkSave(t, "other", other, store.Record{Life: 2}, nil)
	checkRecord(t, "one", one, store.Record{})
	checkBytes(t, "other", second, both(1, store.Record{Life: 2}, 0, store.Record{}))
	clone := second.Clone()
	checkSave(t, "other", other, store.Record{Life: 3}, nil)
	opened(t, "a clone of its cell", clone, store.Record{Life: 2})
}
