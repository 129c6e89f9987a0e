package wire_test

import (
	"bytes"
	"errors"
	"math"
	"math/big"
	"slices"
	"strings"
	"testing"

	"paternoster/api"
	"paternoster/wire"
)

// edges are numbers around each power of two, and the ends of 64 bits.
func edges() []int64 {
	out := []int64{0, math.MinInt64, math.MinInt64 + 1, math.MaxInt64, math.MaxInt64 - 1}
	for i := range 63 {
		p := int64(1) << i
		out = append(out, p-1, p, p+1, -p-1, -p, -p+1)
	}
	return out
}

// plainPut tells n's bytes by numbers without bounds, as the chapter has them.
func plainPut(n int64) []byte {
	z := new(big.Int).Mul(big.NewInt(2), big.NewInt(n))
	if n < 0 {
		z.Neg(z).Sub(z, big.NewInt(1))
	}
	var out []byte
	for {
		low := new(big.Int)
		z.DivMod(z, big.NewInt(128), low)
		if z.Sign() == 0 {
			return append(out, byte(low.Int64()))
		}
		out = append(out, byte(low.Int64()+128))
	}
}

// plainNum tells how many bytes the number at b's beginning has, and the number, or the error.
func plainNum(b []byte) (int, int64, error) {
	z := new(big.Int)
	for i, x := range b {
		switch {
		case i == 9 && x > 1, i > 0 && x == 0:
			return 0, 0, api.ErrShape
		}
		digit := big.NewInt(int64(x % 128))
		z.Add(z, digit.Lsh(digit, uint(7*i)))
		if x < 128 {
			if z.Bit(0) == 1 {
				z.Neg(z).Sub(z, big.NewInt(1))
			}
			return i + 1, z.Div(z, big.NewInt(2)).Int64(), nil
		}
	}
	return 0, 0, api.ErrEnd
}

// checkState holds what a reader tells of itself against what it has to.
func checkState(t *testing.T, what string, r *wire.Reader, at, left int, want error) {
	t.Helper()
	if r.At() != at || r.Left() != left {
		t.Errorf("%s: At %d, Left %d, not %d, %d", what, r.At(), r.Left(), at, left)
	}
	err := r.Err()
	if want == nil {
		if err != nil {
			t.Errorf("%s: Err %v, not nil", what, err)
		}
		return
	}
	place, ok := err.(*api.At)
	if !ok || place.Pos != at || place.Err != want || !errors.Is(err, want) {
		t.Errorf("%s: Err %v, not %d: %v", what, err, at, want)
	}
}

// checkStays asks a reader behind its first error for all that there is.
func checkStays(t *testing.T, what string, r *wire.Reader, at, left int, want error) {
	t.Helper()
	checkState(t, what, r, at, left, want)
	for range 2 {
		if n := r.Num(math.MinInt64, math.MaxInt64); n != 0 {
			t.Errorf("%s: behind its error Num answers %d", what, n)
		}
		checkState(t, what+", Num", r, at, left, want)
		if n := r.Num(5, 4); n != 0 {
			t.Errorf("%s: behind its error Num(5, 4) answers %d", what, n)
		}
		checkState(t, what+", Num(5, 4)", r, at, left, want)
		if s := r.Text(math.MaxInt); s != "" {
			t.Errorf("%s: behind its error Text answers %q", what, s)
		}
		checkState(t, what+", Text", r, at, left, want)
		if r.Bool() {
			t.Errorf("%s: behind its error Bool answers true", what)
		}
		checkState(t, what+", Bool", r, at, left, want)
	}
}

// P1.1

func TestPutBytes(t *testing.T) {
	for _, x := range []struct {
		n    int64
		want []byte
	}{
		{0, []byte{0}},
		{-1, []byte{1}},
		{1, []byte{2}},
		{-2, []byte{3}},
		{63, []byte{126}},
		{-64, []byte{127}},
		{64, []byte{128, 1}},
		{-65, []byte{129, 1}},
		{8191, []byte{254, 127}},
		{-8192, []byte{255, 127}},
		{8192, []byte{128, 128, 1}},
		{math.MaxInt64, []byte{254, 255, 255, 255, 255, 255, 255, 255, 255, 1}},
		{math.MinInt64, []byte{255, 255, 255, 255, 255, 255, 255, 255, 255, 1}},
	} {
		if got := wire.Put(nil, x.n); !slices.Equal(got, x.want) {
			t.Errorf("Put(nil, %d) = %v, not %v", x.n, got, x.want)
		}
	}
}

func TestPutAtEdges(t *testing.T) {
	for _, n := range edges() {
		want := plainPut(n)
		if got := wire.Put(nil, n); !slices.Equal(got, want) {
			t.Errorf("Put(nil, %d) = %v, not %v", n, got, want)
		}
		if got := wire.Put([]byte{7, 0, 255}, n); !slices.Equal(got, append([]byte{7, 0, 255}, want...)) {
			t.Errorf("Put(7 0 255, %d) = %v", n, got)
		}
	}
}

func TestPutText(t *testing.T) {
	for _, s := range []string{"", "a", "ab", "\x00", "\xff\xfe", "héllo", strings.Repeat("x", 63), strings.Repeat("y", 64), strings.Repeat("z", 10000)} {
		want := append([]byte{9, 8}, plainPut(int64(len(s)))...)
		want = append(want, s...)
		if got := wire.PutText([]byte{9, 8}, s); !slices.Equal(got, want) {
			t.Errorf("PutText of %d bytes: %d bytes, not %d, or others", len(s), len(got), len(want))
		}
		if got := wire.PutText(nil, s); !slices.Equal(got, want[2:]) {
			t.Errorf("PutText(nil) of %d bytes: %d bytes, not %d, or others", len(s), len(got), len(want)-2)
		}
	}
}

func TestPutNilIsEmpty(t *testing.T) {
	if !slices.Equal(wire.Put([]byte{}, 300), wire.Put(nil, 300)) || !slices.Equal(wire.PutText([]byte{}, "ab"), wire.PutText(nil, "ab")) {
		t.Error("nil and the empty list are not the same")
	}
}

// puts are calls that answer b and something behind it.
func puts() []func(b []byte) []byte {
	return []func(b []byte) []byte{
		func(b []byte) []byte { return wire.Put(b, 3) },
		func(b []byte) []byte { return wire.Put(b, math.MinInt64) },
		func(b []byte) []byte { return wire.PutText(b, "") },
		func(b []byte) []byte { return wire.PutText(b, "abc") },
	}
}

func TestPutIsNewMemory(t *testing.T) {
	for i, put := range puts() {
		for size := range 3 {
			memory := bytes.Repeat([]byte{200}, 64)
			b := memory[:size]
			first := put(b)
			if !slices.Equal(memory, bytes.Repeat([]byte{200}, 64)) {
				t.Errorf("call %d: it wrote into what was handed in: %v", i, memory)
			}
			second := put(b)
			keep := slices.Clone(second)
			spoil(memory)
			spoil(first)
			if !slices.Equal(second, keep) {
				t.Errorf("call %d: an answer shares memory: %v, not %v", i, second, keep)
			}
		}
	}
}

func TestPutOntoAnAnswer(t *testing.T) {
	for i, put := range puts() {
		base := wire.Put(nil, 5)
		first, second := put(base), wire.Put(base, 77)
		spoil(base)
		if !slices.Equal(second, append([]byte{10}, plainPut(77)...)) || first[0] != 10 {
			t.Errorf("call %d: answers share memory: %v, %v", i, first, second)
		}
	}
}

// spoil writes into all of b, its spare room too.
func spoil(b []byte) {
	b = b[:cap(b)]
	for i := range b {
		b[i] = 99
	}
}

// P1.2

func TestNumOfPut(t *testing.T) {
	var b []byte
	for _, n := range edges() {
		b = wire.Put(b, n)
	}
	r := wire.NewReader(b)
	at := 0
	for _, n := range edges() {
		checkState(t, "ahead of Num", r, at, len(b)-at, nil)
		if got := r.Num(math.MinInt64, math.MaxInt64); got != n {
			t.Errorf("Num of Put(%d) = %d", n, got)
		}
		at += len(plainPut(n))
	}
	checkState(t, "behind all", r, len(b), 0, nil)
}

func TestNumWithinAndOutside(t *testing.T) {
	for _, n := range edges() {
		b := append([]byte{2}, plainPut(n)...)
		for _, x := range []struct{ low, high int64 }{{n, n}, {math.MinInt64, n}, {n, math.MaxInt64}} {
			r := wire.NewReader(b)
			if r.Num(1, 1) != 1 || r.Num(x.low, x.high) != n {
				t.Errorf("%d is not from %d to %d", n, x.low, x.high)
			}
			checkState(t, "within", r, len(b), 0, nil)
		}
		if n < math.MaxInt64 {
			checkOutside(t, b, n+1, math.MaxInt64)
		}
		if n > math.MinInt64 {
			checkOutside(t, b, math.MinInt64, n-1)
			checkOutside(t, b, n, n-1)
		}
	}
}

// checkOutside reads a 1, and then a number that is not from low to high.
func checkOutside(t *testing.T, b []byte, low, high int64) {
	t.Helper()
	r := wire.NewReader(b)
	if r.Num(1, 1) != 1 || r.Num(low, high) != 0 {
		t.Errorf("%v: a number is answered that is not from %d to %d", b, low, high)
	}
	checkStays(t, "outside", r, 1, len(b)-1, api.ErrRange)
}

// shapes are bytes of which some are numbers and some are not: all of one and two bytes, and longer ones that go on alike.
func shapes() [][]byte {
	out := [][]byte{nil}
	for x := range 256 {
		out = append(out, []byte{byte(x)})
		for y := range 256 {
			out = append(out, []byte{byte(x), byte(y)})
		}
	}
	for size := 2; size < 13; size++ {
		for _, fill := range []byte{128, 129, 255} {
			for last := range 256 {
				out = append(out, append(bytes.Repeat([]byte{fill}, size), byte(last)))
			}
		}
	}
	return out
}

func TestNumOfAnyBytes(t *testing.T) {
	for _, b := range shapes() {
		r := wire.NewReader(b)
		size, want, err := plainNum(b)
		if got := r.Num(math.MinInt64, math.MaxInt64); got != want {
			t.Fatalf("Num of %v = %d, not %d", b, got, want)
		}
		if err != nil {
			checkStays(t, "Num of any bytes", r, 0, len(b), err)
			continue
		}
		checkState(t, "Num of any bytes", r, size, len(b)-size, nil)
		if !slices.Equal(wire.Put(nil, want), b[:size]) {
			t.Fatalf("%v: a number with two forms", b)
		}
	}
}

func TestNumErrors(t *testing.T) {
	ones := bytes.Repeat([]byte{255}, 9)
	for _, x := range []struct {
		what string
		b    []byte
		want error
	}{
		{"no byte", nil, api.ErrEnd},
		{"goes on, ends", []byte{128}, api.ErrEnd},
		{"nine go on, end", ones, api.ErrEnd},
		{"a 0 that is not the first", []byte{128, 0}, api.ErrShape},
		{"a 0 as the third", []byte{128, 129, 0}, api.ErrShape},
		{"a 0 as the tenth", append(slices.Clone(ones), 0), api.ErrShape},
		{"the tenth above 64 bits", append(slices.Clone(ones), 2), api.ErrShape},
		{"the tenth goes on, ends", append(slices.Clone(ones), 128), api.ErrShape},
		{"the tenth goes on with 1", append(slices.Clone(ones), 129, 1), api.ErrShape},
		{"the shape ahead of the range", []byte{254, 0}, api.ErrShape},
		{"above", []byte{20}, api.ErrRange},
		{"below", []byte{1}, api.ErrRange},
		{"far above", append(append([]byte{254}, ones[1:]...), 1), api.ErrRange},
		{"far below", append(slices.Clone(ones), 1), api.ErrRange},
	} {
		for _, ahead := range [][]byte{nil, {2}, {2, 128, 1}} {
			b := append(slices.Clone(ahead), x.b...)
			r := wire.NewReader(b)
			for r.At() < len(ahead) {
				r.Num(0, 64)
			}
			if n := r.Num(0, 9); n != 0 {
				t.Errorf("%s: %d", x.what, n)
			}
			checkStays(t, x.what, r, len(ahead), len(x.b), x.want)
		}
	}
}

func TestRangeComesLast(t *testing.T) {
	for _, x := range []struct {
		b    []byte
		want error
	}{
		{nil, api.ErrEnd},
		{[]byte{130}, api.ErrEnd},
		{[]byte{130, 0}, api.ErrShape},
		{append(bytes.Repeat([]byte{128}, 9), 2), api.ErrShape},
		{[]byte{0}, api.ErrRange},
	} {
		for _, low := range []int64{1, math.MinInt64} {
			r := wire.NewReader(x.b)
			if n := r.Num(low, low+8); n != 0 {
				t.Errorf("Num of %v is %d", x.b, n)
			}
			checkStays(t, "a range without 0", r, 0, len(x.b), x.want)
		}
	}
}

func TestText(t *testing.T) {
	for _, s := range []string{"", "a", "\x00\xff", "héllo", strings.Repeat("x", 63), strings.Repeat("y", 64), strings.Repeat("z", 10000)} {
		head := len(plainPut(int64(len(s))))
		b := append(wire.PutText([]byte{2}, s), 4)
		for _, most := range []int{len(s), len(s) + 1, math.MaxInt} {
			r := wire.NewReader(b)
			if r.Num(0, 1) != 1 || r.Text(most) != s {
				t.Errorf("Text(%d) is not the one of %d bytes that was put", most, len(s))
			}
			checkState(t, "Text", r, 1+head+len(s), 1, nil)
			if r.Num(2, 2) != 2 {
				t.Error("Num behind a Text")
			}
		}
		for _, most := range []int{len(s) - 1, -1, math.MinInt} {
			r := wire.NewReader(b)
			if r.Num(0, 1) != 1 || r.Text(most) != "" {
				t.Errorf("Text(%d) answers more", most)
			}
			checkStays(t, "Text of more than may be", r, 1, len(b)-1, api.ErrRange)
		}
	}
}

func TestTextErrors(t *testing.T) {
	for _, x := range []struct {
		what string
		b    []byte
		most int
		want error
	}{
		{"no byte", nil, 9, api.ErrEnd},
		{"no whole number", []byte{128}, 999, api.ErrEnd},
		{"a number out of shape", []byte{130, 0, 'a'}, 9, api.ErrShape},
		{"below 0", []byte{1, 'a'}, 9, api.ErrRange},
		{"no bytes of the text", []byte{2}, 9, api.ErrEnd},
		{"a byte too few", []byte{6, 'a', 'b'}, 9, api.ErrEnd},
		{"a byte too few of 64", append([]byte{128, 1}, make([]byte, 63)...), 64, api.ErrEnd},
		{"too many, and too few", []byte{6, 'a', 'b'}, 2, api.ErrRange},
		{"the greatest number", append(wire.Put(nil, math.MaxInt64), 'a'), math.MaxInt, api.ErrEnd},
		{"2^32 bytes", append(wire.Put(nil, 1<<32), 'a'), math.MaxInt, api.ErrEnd},
	} {
		r := wire.NewReader(append([]byte{0}, x.b...))
		if r.Num(0, 0) != 0 || r.Text(x.most) != "" {
			t.Errorf("%s: a text", x.what)
		}
		checkStays(t, x.what, r, 1, len(x.b), x.want)
	}
}

func TestBool(t *testing.T) {
	r := wire.NewReader([]byte{2, 0, 2, 4, 2})
	for i, want := range []bool{true, false, true} {
		if r.Bool() != want {
			t.Errorf("Bool %d is not %v", i, want)
		}
		checkState(t, "Bool", r, i+1, 4-i, nil)
	}
	if r.Bool() {
		t.Error("2 is true")
	}
	checkStays(t, "Bool of 2", r, 3, 2, api.ErrRange)
}

func TestBoolErrors(t *testing.T) {
	for _, x := range []struct {
		b    []byte
		want error
	}{
		{nil, api.ErrEnd},
		{[]byte{130}, api.ErrEnd},
		{[]byte{130, 0}, api.ErrShape},
		{[]byte{1}, api.ErrRange},
		{[]byte{4}, api.ErrRange},
		{[]byte{130, 1}, api.ErrRange},
	} {
		r := wire.NewReader(x.b)
		if r.Bool() {
			t.Errorf("Bool of %v is true", x.b)
		}
		checkStays(t, "Bool", r, 0, len(x.b), x.want)
	}
}

func TestReaderEndsWhereItsBytesEnd(t *testing.T) {
	memory := []byte{2, 130, 1, 6, 'a', 'b', 'c', 2}
	for size := range memory {
		r := wire.NewReader(memory[:size])
		checkState(t, "a new one", r, 0, size, nil)
		r.Num(0, 1)
		r.Num(0, 65)
		r.Text(3)
		r.Bool()
		at := []int{0, 1, 1, 3, 3, 3, 3, 7}[size]
		checkStays(t, "bytes that end too early", r, at, size-at, api.ErrEnd)
		if !slices.Equal(memory, []byte{2, 130, 1, 6, 'a', 'b', 'c', 2}) {
			t.Errorf("the reader wrote into its bytes: %v", memory)
		}
	}
}

func TestReaderKeepsItsOwnBytes(t *testing.T) {
	b := []byte{4, 'a', 'b', 2, 6}
	r := wire.NewReader(b)
	s := r.Text(2)
	spoil(b)
	if s != "ab" || !r.Bool() || r.Num(0, 9) != 3 {
		t.Error("what is written into the bytes handed in is seen")
	}
	checkState(t, "behind all", r, 5, 0, nil)
}

func TestReadersStandAlone(t *testing.T) {
	b := []byte{2, 4}
	first, second := wire.NewReader(b), wire.NewReader(b)
	first.Num(0, 9)
	first.Num(0, 1)
	checkState(t, "first", first, 1, 1, api.ErrRange)
	checkState(t, "second", second, 0, 2, nil)
	if second.Num(0, 9) != 1 || second.Num(0, 9) != 2 {
		t.Error("a reader hangs on another one")
	}
}

func TestErrIsNotShared(t *testing.T) {
	r := wire.NewReader(nil)
	r.Num(0, 9)
	if at, ok := r.Err().(*api.At); ok {
		at.Pos, at.Err = 7, nil
	}
	checkStays(t, "an At that was written into", r, 0, 0, api.ErrEnd)
}
