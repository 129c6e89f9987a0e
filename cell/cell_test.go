package cell_test

import (
	"math"
	"testing"

	"paternoster/api"
	"paternoster/cell"
)

// outside are places at which a cell of that size has no byte.
func outside(size int) []int {
	return []int{-1, -2, math.MinInt, size, size + 1, math.MaxInt}
}

// newCell is a cell of that size, which has to be one.
func newCell(t *testing.T, size int) *cell.Cell {
	t.Helper()
	c, err := cell.New(size)
	if err != nil || c == nil {
		t.Fatalf("New(%d): %v, %v", size, c, err)
	}
	return c
}

// filled is a cell of these bytes, put one by one.
func filled(t *testing.T, bytes ...byte) *cell.Cell {
	t.Helper()
	c := newCell(t, len(bytes))
	for i, b := range bytes {
		checkPut(t, "filled", c, i, b, nil)
	}
	return c
}

// checkPut holds what Put answers against what it has to.
func checkPut(t *testing.T, what string, c *cell.Cell, i int, b byte, want error) {
	t.Helper()
	if err := c.Put(i, b); err != want {
		t.Errorf("%s: Put(%d, %d): %v, not %v", what, i, b, err, want)
	}
}

// checkUp holds a cell that is up, of these bytes, with so many writes, against what it tells.
func checkUp(t *testing.T, what string, c *cell.Cell, writes int, bytes ...byte) {
	t.Helper()
	if c.Down() || c.Size() != len(bytes) || c.Writes() != writes {
		t.Errorf("%s: Down %v, Size %d, Writes %d, not false, %d, %d", what, c.Down(), c.Size(), c.Writes(), len(bytes), writes)
	}
	for i, want := range bytes {
		if b, err := c.Get(i); b != want || err != nil {
			t.Errorf("%s: Get(%d) = %d, %v, not %d", what, i, b, err, want)
		}
	}
	for _, i := range outside(len(bytes)) {
		if b, err := c.Get(i); b != 0 || err != api.ErrNone {
			t.Errorf("%s: Get(%d) = %d, %v, not 0, ErrNone", what, i, b, err)
		}
	}
}

// checkDown holds a cell that is down against what it tells, at places of all kinds.
func checkDown(t *testing.T, what string, c *cell.Cell, writes, size int) {
	t.Helper()
	for _, i := range append(outside(size), 0, size-1) {
		if b, err := c.Get(i); b != 0 || err != api.ErrPower {
			t.Errorf("%s: Get(%d) = %d, %v, not 0, ErrPower", what, i, b, err)
		}
		checkPut(t, what, c, i, 99, api.ErrPower)
	}
	if !c.Down() || c.Size() != size || c.Writes() != writes {
		t.Errorf("%s: Down %v, Size %d, Writes %d, not true, %d, %d", what, c.Down(), c.Size(), c.Writes(), size, writes)
	}
}

// P2.1

func TestNew(t *testing.T) {
	for _, size := range []int{1, 2, 26, 4095, 4096} {
		c := newCell(t, size)
		checkUp(t, "a new one", c, 0, make([]byte, size)...)
	}
}

func TestNewOutOfRange(t *testing.T) {
	for _, size := range []int{0, -1, math.MinInt, 4097, 4098, 1 << 32, 1<<32 + 1, math.MaxInt} {
		if c, err := cell.New(size); c != nil || err != api.ErrRange {
			t.Errorf("New(%d): %v, %v, not nil, ErrRange", size, c, err)
		}
	}
}

func TestPutAndGet(t *testing.T) {
	for _, size := range []int{1, 2, 3, 255, 256, 257, 4096} {
		c := newCell(t, size)
		want := make([]byte, size)
		for i := range want {
			want[i] = byte(i*7 + 1)
			checkPut(t, "one by one", c, i, want[i], nil)
		}
		checkUp(t, "all put", c, size, want...)
		for _, x := range []byte{255, 128, 0, 0} {
			want[0], want[size-1] = x, x
			checkPut(t, "the first", c, 0, x, nil)
			checkPut(t, "the last", c, size-1, x, nil)
		}
		checkUp(t, "the first and the last put anew", c, size+8, want...)
	}
}

func TestPutOfEachByte(t *testing.T) {
	c := newCell(t, 1)
	for b := range 256 {
		checkPut(t, "each byte", c, 0, byte(b), nil)
		checkUp(t, "each byte", c, b+1, byte(b))
	}
}

func TestPutWhereThereIsNone(t *testing.T) {
	for _, size := range []int{1, 4, 4096} {
		c := newCell(t, size)
		checkPut(t, "the first", c, 0, 7, nil)
		for _, i := range outside(size) {
			checkPut(t, "outside", c, i, 9, api.ErrNone)
		}
		want := make([]byte, size)
		want[0] = 7
		checkUp(t, "behind Puts outside", c, 1, want...)
	}
}

func TestArm(t *testing.T) {
	for n := 1; n < 12; n++ {
		c := filled(t, 1, 2, 3)
		want := []byte{1, 2, 3}
		c.Arm(n)
		for k := 1; k < n; k++ {
			want[k%3] = byte(10 + k)
			checkPut(t, "ahead of the n-th", c, k%3, want[k%3], nil)
			checkUp(t, "ahead of the n-th", c, 3+k, want...)
		}
		checkPut(t, "the n-th", c, 0, 99, api.ErrPower)
		checkDown(t, "behind the n-th", c, 3+n-1, 3)
		c.Back()
		checkUp(t, "back", c, 3+n-1, want...)
	}
}

func TestArmCountsWhateverAPutIsHanded(t *testing.T) {
	for _, i := range append(outside(2), 0, 1) {
		want := api.ErrNone
		if i == 0 || i == 1 {
			want = nil
		}
		c := filled(t, 5, 6)
		c.Arm(3)
		for range 2 {
			checkPut(t, "ahead of the third", c, i, []byte{5, 6}[i&1], want)
		}
		checkPut(t, "the third", c, 0, 99, api.ErrPower)
		writes := 2
		if want == nil {
			writes = 4
		}
		checkDown(t, "behind the third", c, writes, 2)
		c.Back()
		checkUp(t, "back", c, writes, 5, 6)

		c.Arm(1)
		checkPut(t, "the first", c, i, 99, api.ErrPower)
		checkDown(t, "behind the first", c, writes, 2)
		c.Back()
		checkUp(t, "back again", c, writes, 5, 6)
	}
}

func TestArmCountsNothingButPuts(t *testing.T) {
	c := filled(t, 5, 6)
	c.Arm(2)
	for range 3 {
		checkUp(t, "armed", c, 2, 5, 6)
		c.Clone()
	}
	checkPut(t, "the first", c, 0, 7, nil)
	checkUp(t, "still armed", c, 3, 7, 6)
	checkPut(t, "the second", c, 1, 8, api.ErrPower)
	checkDown(t, "behind the second", c, 3, 2)
}

func TestArmBelow1(t *testing.T) {
	for _, n := range []int{0, -1, -5, math.MinInt} {
		for armed := range 4 {
			c := filled(t, 0, 0)
			c.Arm(armed)
			c.Arm(n)
			for k := range 5 {
				checkPut(t, "disarmed", c, 1, byte(k), nil)
			}
			checkUp(t, "disarmed", c, 7, 0, 4)
		}
	}
}

func TestArmAnew(t *testing.T) {
	for first := 1; first < 6; first++ {
		for between := range first {
			for second := 1; second < 6; second++ {
				c := filled(t, 0)
				c.Arm(first)
				for range between {
					checkPut(t, "armed", c, 0, 1, nil)
				}
				c.Arm(second)
				for range second - 1 {
					checkPut(t, "armed anew", c, 0, 1, nil)
				}
				checkPut(t, "the last", c, 0, 2, api.ErrPower)
				checkDown(t, "armed anew", c, between+second, 1)
			}
		}
	}
}

func TestArmOfTheGreatest(t *testing.T) {
	for _, n := range []int{1 << 32, math.MaxInt} {
		c := filled(t, 0)
		c.Arm(n)
		for k := range 1000 {
			checkPut(t, "armed for long", c, 0, byte(k), nil)
		}
		checkUp(t, "armed for long", c, 1001, 999%256)
	}
}

func TestArmWhileDown(t *testing.T) {
	for _, n := range []int{math.MinInt, -1, 0, 1, 2, 3, math.MaxInt} {
		c := filled(t, 5)
		c.Arm(1)
		checkPut(t, "the first", c, 0, 9, api.ErrPower)
		c.Arm(n)
		checkDown(t, "armed while down", c, 1, 1)
		c.Arm(n)
		c.Back()
		for k := range 4 {
			checkPut(t, "back", c, 0, byte(k), nil)
		}
		checkUp(t, "back", c, 5, 3)
	}
}

func TestBack(t *testing.T) {
	c := filled(t, 5, 6)
	c.Back()
	checkUp(t, "Back of one that is up", c, 2, 5, 6)
	for _, n := range []int{1, 2, 3} {
		c.Arm(n)
		c.Back()
		for range 4 {
			checkPut(t, "disarmed by Back", c, 0, byte(n), nil)
		}
	}
	checkUp(t, "disarmed by Back", c, 14, 3, 6)
	for k := range 3 {
		c.Arm(2)
		checkPut(t, "ahead of the cut", c, 1, byte(40+k), nil)
		checkPut(t, "the cut", c, 0, 99, api.ErrPower)
		checkDown(t, "the cut", c, 15+k, 2)
		c.Back()
		c.Back()
		checkUp(t, "back", c, 15+k, 3, byte(40+k))
	}
}

func TestWrites(t *testing.T) {
	c := newCell(t, 2)
	for k, x := range []struct {
		i      int
		b      byte
		writes int
	}{{0, 1, 1}, {0, 1, 2}, {2, 1, 2}, {-1, 1, 2}, {1, 0, 3}, {1, 0, 4}} {
		c.Put(x.i, x.b)
		if c.Writes() != x.writes {
			t.Errorf("behind Put %d: Writes %d, not %d", k, c.Writes(), x.writes)
		}
	}
}

func TestCloneStandsAlone(t *testing.T) {
	c := filled(t, 1, 2, 3)
	x := c.Clone()
	checkUp(t, "a clone", x, 3, 1, 2, 3)
	checkPut(t, "the clone", x, 0, 9, nil)
	checkPut(t, "the clone", x, 2, 8, nil)
	checkPut(t, "the first one", c, 1, 7, nil)
	checkUp(t, "the first one", c, 4, 1, 7, 3)
	checkUp(t, "the clone", x, 5, 9, 2, 8)
	y := x.Clone()
	checkPut(t, "a clone's clone", y, 1, 0, nil)
	checkUp(t, "the clone", x, 5, 9, 2, 8)
	checkUp(t, "a clone's clone", y, 6, 9, 0, 8)
}

func TestCloneOfOneThatIsArmed(t *testing.T) {
	c := filled(t, 1, 2)
	c.Arm(3)
	checkPut(t, "armed", c, 0, 5, nil)
	x := c.Clone()
	checkPut(t, "the clone", x, 1, 6, nil)
	checkPut(t, "the clone", x, 1, 7, api.ErrPower)
	checkDown(t, "the clone", x, 4, 2)
	checkUp(t, "the first one", c, 3, 5, 2)
	checkPut(t, "the first one", c, 1, 8, nil)
	x.Back()
	checkPut(t, "the first one, armed while the clone is back", c, 0, 9, api.ErrPower)
	checkDown(t, "the first one", c, 4, 2)
	checkUp(t, "the clone", x, 4, 5, 6)

	c.Back()
	y := c.Clone()
	c.Arm(1)
	checkPut(t, "a clone from ahead of Arm", y, 0, 3, nil)
	y.Arm(1)
	c.Arm(0)
	checkPut(t, "the first one, while the clone is armed", c, 0, 4, nil)
	checkPut(t, "the clone that is armed", y, 0, 4, api.ErrPower)
	checkUp(t, "the first one", c, 5, 4, 8)
}

func TestCloneOfOneThatIsDown(t *testing.T) {
	c := filled(t, 1, 2)
	c.Arm(1)
	checkPut(t, "the cut", c, 0, 5, api.ErrPower)
	x, y := c.Clone(), c.Clone()
	checkDown(t, "a clone", x, 2, 2)
	c.Back()
	checkPut(t, "the first one", c, 0, 7, nil)
	checkDown(t, "a clone while the first one is up", x, 2, 2)
	x.Back()
	checkUp(t, "a clone that is back", x, 2, 1, 2)
	checkPut(t, "a clone that is back", x, 1, 9, nil)
	checkUp(t, "the first one", c, 3, 7, 2)
	checkUp(t, "a clone that is back", x, 3, 1, 9)
	checkDown(t, "another clone", y, 2, 2)
}

func TestCellsStandAlone(t *testing.T) {
	c, x := newCell(t, 2), newCell(t, 2)
	c.Arm(1)
	checkPut(t, "the one", c, 0, 5, api.ErrPower)
	checkPut(t, "the other", x, 0, 6, nil)
	checkDown(t, "the one", c, 0, 2)
	checkUp(t, "the other", x, 1, 6, 0)
}

// step is a call that changes something: a Put of b at i, an Arm, a Back.
type step struct {
	what string
	n    int
}

// steps are those that plays are made of: Puts at the two bytes and at both sides of them, Arms, Back.
func steps() []step {
	return []step{{"put", 0}, {"put", 1}, {"put", -1}, {"put", 2}, {"arm", 0}, {"arm", 1}, {"arm", 2}, {"arm", 3}, {"back", 0}}
}

// cutAt tells at which place of a play the Arm at place a cuts the power: at its n-th Put, unless an Arm or a Back comes between; -1: nowhere.
func cutAt(play []step, a int) int {
	left := play[a].n
	for k := a + 1; k < len(play) && play[k].what == "put" && left > 0; k++ {
		left--
		if left == 0 {
			return k
		}
	}
	return -1
}

// plainDown tells of each place of a play whether the cell is down behind it, by what lies ahead of that place in the play.
func plainDown(play []step) []bool {
	down := make([]bool, len(play))
	for a, s := range play {
		if s.what != "arm" || s.n < 1 {
			continue
		}
		if cut := cutAt(play, a); cut >= 0 {
			for k := cut; k < len(play) && play[k].what != "back"; k++ {
				down[k] = true
			}
		}
	}
	return down
}

// checkPlay plays on a cell of two bytes, with a clone in place of it from one place on, and holds all that it tells against the play.
func checkPlay(t *testing.T, play []step, clone int) {
	t.Helper()
	c := newCell(t, 2)
	down := plainDown(play)
	want, writes := []byte{0, 0}, 0
	for k, s := range play {
		if k == clone {
			c = c.Clone()
		}
		switch s.what {
		case "arm":
			c.Arm(s.n)
		case "back":
			c.Back()
		case "put":
			var err error
			switch {
			case down[k]:
				err = api.ErrPower
			case s.n < 0 || s.n > 1:
				err = api.ErrNone
			default:
				want[s.n] = byte(k + 1)
				writes++
			}
			checkPut(t, "a play", c, s.n, byte(k+1), err)
		}
		if c.Down() != down[k] || c.Writes() != writes {
			t.Fatalf("%v, behind %d: Down %v, Writes %d, not %v, %d", play, k, c.Down(), c.Writes(), down[k], writes)
		}
	}
	c.Back()
	checkUp(t, "behind a play", c, writes, want...)
	if t.Failed() {
		t.Fatalf("%v, cloned ahead of %d", play, clone)
	}
}

func TestEachShortPlay(t *testing.T) {
	all := steps()
	for size := range 6 {
		count := 1
		for range size {
			count *= len(all)
		}
		for number := range count {
			play := make([]step, size)
			rest := number
			for k := range play {
				play[k] = all[rest%len(all)]
				rest /= len(all)
			}
			checkPlay(t, play, number%(size+1))
		}
	}
}
