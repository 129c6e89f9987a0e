package frame_test

import (
	"bytes"
	"errors"
	"math"
	"testing"

	"paternoster/api"
	"paternoster/frame"
)

// A field is a number of a frame's bytes, and from which to which it may be.
type field struct{ n, low, high int64 }

// fields are all numbers behind the head of f's bytes, in their order.
func fields(f api.Frame) []field {
	out := []field{{int64(f.From), 0, 15}, {int64(f.To), 0, 15}}
	if f.Kind == api.Beat {
		flag := field{0, 0, 1}
		if f.Out {
			flag.n = 1
		}
		return append(out, field{f.Life, 0, mostKept}, field{f.Seen, 0, mostKept}, flag)
	}
	ring := f.Ring
	out = append(out, field{ring.Epoch.Count, 1, mostCount}, field{int64(ring.Epoch.Founder), 0, 15}, field{ring.Hop, 0, mostHop})
	out = append(out, field{int64(len(ring.Members)), 0, 16})
	for _, car := range ring.Members {
		out = append(out, field{int64(car), 0, 15})
	}
	out = append(out, field{int64(len(ring.Entries)), 0, 128})
	for _, e := range ring.Entries {
		call := e.Latch.Call
		out = append(out, field{int64(call.Floor), 0, 63}, field{int64(call.Dir), -1, 1}, field{int64(e.Latch.Gen), 1, mostGen}, field{int64(e.Award), -1, 15})
		out = append(out, field{int64(len(e.Bids)), 0, int64(len(ring.Members))})
		for _, b := range e.Bids {
			out = append(out, field{int64(b.Car), 0, 15}, field{int64(b.Ticks), 0, mostTicks})
		}
	}
	return out
}

// plain is a number's bytes, as chapter 1 has them.
func plain(n int64) []byte {
	z := 2 * uint64(n)
	if n < 0 {
		z = 2*uint64(-(n+1)) + 1
	}
	var out []byte
	for ; z >= 128; z /= 128 {
		out = append(out, byte(z%128+128))
	}
	return append(out, byte(z))
}

// plainBytes are f's bytes, as the chapter has them, and at which places its fields begin.
func plainBytes(f api.Frame) ([]byte, []int) {
	b := []byte{80, byte(f.Kind)}
	var places []int
	for _, x := range fields(f) {
		places = append(places, len(b))
		b = append(b, plain(x.n)...)
	}
	return b, places
}

// instead is f's bytes with others for the k-th field.
func instead(f api.Frame, k int, other []byte) []byte {
	b, places := plainBytes(f)
	end := len(b)
	if k+1 < len(places) {
		end = places[k+1]
	}
	return append(append(bytes.Clone(b[:places[k]]), other...), b[end:]...)
}

// checkRefused reads b, which has to answer want: around a place, or bare, if that is -1.
func checkRefused(t *testing.T, what string, b []byte, place int, want error) {
	t.Helper()
	f, err := frame.Read(b)
	if !equal(f, api.Frame{}) {
		t.Errorf("%s: beside an error stands %v", what, f)
	}
	if place < 0 {
		if err != want {
			t.Errorf("%s: %v, not bare %v", what, err, want)
		}
		return
	}
	at, ok := err.(*api.At)
	if !ok || at.Pos != place || at.Err != want || !errors.Is(err, want) {
		t.Errorf("%s: %v, not %d: %v", what, err, place, want)
	}
}

// small are samples with few bytes.
func small() []api.Frame {
	return []api.Frame{{Kind: api.Beat}, beat(), token(), least(), tokenOfOne()}
}

// P5.2

func TestBytesOfABeat(t *testing.T) {
	for _, x := range []struct {
		f    api.Frame
		want []byte
	}{
		{api.Frame{Kind: api.Beat}, []byte{80, 1, 0, 0, 0, 0, 0}},
		{api.Frame{Kind: api.Beat, From: 1, To: 2, Life: 3, Seen: 4, Out: true}, []byte{80, 1, 2, 4, 6, 8, 2}},
		{api.Frame{Kind: api.Beat, From: 15, To: 14, Life: 64, Seen: 63}, []byte{80, 1, 30, 28, 128, 1, 126, 0}},
		{api.Frame{Kind: api.Beat, Life: mostKept, Seen: mostKept}, []byte{80, 1, 0, 0, 254, 255, 255, 255, 255, 255, 127, 254, 255, 255, 255, 255, 255, 127, 0}},
	} {
		if got, err := frame.Bytes(x.f); err != nil || !bytes.Equal(got, x.want) {
			t.Errorf("Bytes of %v = %v, %v, not %v", x.f, got, err, x.want)
		}
	}
}

func TestBytesOfAToken(t *testing.T) {
	for _, x := range []struct {
		f    api.Frame
		want []byte
	}{
		{least(), []byte{80, 2, 0, 0, 2, 0, 0, 2, 0, 0}},
		{tokenOfOne(), []byte{80, 2, 0, 0, 2, 0, 0, 2, 0, 2, 8, 2, 2, 1, 2, 0, 0}},
		{token(), []byte{
			80, 2, 2, 8, 18, 2, 140, 1, 8, 2, 8, 12, 18, 6,
			6, 1, 4, 1, 4, 2, 10, 12, 0,
			6, 2, 2, 8, 0,
			10, 2, 14, 18, 8, 2, 18, 8, 136, 14, 12, 18, 18, 16,
		}},
	} {
		if got, err := frame.Bytes(x.f); err != nil || !bytes.Equal(got, x.want) {
			t.Errorf("Bytes of %v = %v, %v, not %v", x.f, got, err, x.want)
		}
	}
}

func TestBytesOfSamples(t *testing.T) {
	for i, f := range samples() {
		want, _ := plainBytes(f)
		if got, err := frame.Bytes(f); err != nil || !bytes.Equal(got, want) {
			t.Errorf("Bytes of sample %d = %v, %v, not %v", i, got, err, want)
		}
	}
}

func TestReadOfBytes(t *testing.T) {
	for i, f := range samples() {
		b, _ := plainBytes(f)
		got, err := frame.Read(b)
		if err != nil || !equal(got, f) || !frame.Same(got, f) {
			t.Errorf("Read of the bytes of sample %d = %v, %v", i, got, err)
		}
		if again, err := frame.Bytes(got); err != nil || !bytes.Equal(again, b) {
			t.Errorf("what is read of sample %d has bytes %v, %v, not %v", i, again, err, b)
		}
	}
}

func TestReadHead(t *testing.T) {
	checkRefused(t, "nil", nil, -1, api.ErrShape)
	checkRefused(t, "empty", []byte{}, -1, api.ErrShape)
	checkRefused(t, "80 alone", []byte{80}, -1, api.ErrKind)
	for x := range 256 {
		for _, rest := range [][]byte{nil, {0, 0, 0, 0, 0}, {1, 128}} {
			if x != 80 {
				checkRefused(t, "first byte", append([]byte{byte(x)}, rest...), -1, api.ErrShape)
				checkRefused(t, "first byte, and kind", append([]byte{byte(x), 1}, rest...), -1, api.ErrShape)
			}
			if x != 1 && x != 2 {
				checkRefused(t, "kind", append([]byte{80, byte(x)}, rest...), -1, api.ErrKind)
			}
		}
	}
	checkRefused(t, "a beat's head alone", []byte{80, 1}, 2, api.ErrEnd)
	checkRefused(t, "a token's head alone", []byte{80, 2}, 2, api.ErrEnd)
}

func TestReadCutOff(t *testing.T) {
	for _, f := range append(small(), samples()[2]) {
		b, places := plainBytes(f)
		checkRefused(t, "cut off at 0", b[:0], -1, api.ErrShape)
		checkRefused(t, "cut off at 1", b[:1], -1, api.ErrKind)
		field := 0
		for n := 2; n < len(b); n++ {
			if field+1 < len(places) && places[field+1] <= n {
				field++
			}
			checkRefused(t, "cut off", b[:n], places[field], api.ErrEnd)
		}
	}
}

func TestReadWithMoreBehind(t *testing.T) {
	for _, f := range samples() {
		b, _ := plainBytes(f)
		for x := range 256 {
			checkRefused(t, "a byte behind", append(bytes.Clone(b), byte(x)), -1, api.ErrShape)
		}
		checkRefused(t, "twice", append(bytes.Clone(b), b...), -1, api.ErrShape)
	}
}

func TestReadOfOtherForms(t *testing.T) {
	for _, f := range small() {
		_, places := plainBytes(f)
		for k, x := range fields(f) {
			own := plain(x.n)
			own[len(own)-1] += 128
			long := bytes.Repeat([]byte{128}, 9)
			for _, other := range [][]byte{append(own, 0), {128, 0}, {129, 128, 0}, append(bytes.Clone(long), 2), append(bytes.Clone(long), 0), bytes.Repeat([]byte{255}, 12)} {
				checkRefused(t, "no form of wire's", instead(f, k, other), places[k], api.ErrShape)
			}
		}
	}
}

func TestReadOfNumbersOutside(t *testing.T) {
	for _, f := range small() {
		_, places := plainBytes(f)
		for k, x := range fields(f) {
			for _, n := range []int64{x.low - 1, x.high + 1, x.low - 300, x.high + 1<<32, math.MinInt64, math.MaxInt64} {
				checkRefused(t, "a number outside", instead(f, k, plain(n)), places[k], api.ErrRange)
			}
			for _, n := range []int64{x.low, x.high} {
				var at *api.At
				if _, err := frame.Read(instead(f, k, plain(n))); errors.As(err, &at) && at.Pos == places[k] {
					t.Errorf("field %d of %v: %d: %v", k, f, n, err)
				}
			}
		}
	}
}

// TestReadAtTheEnds reads frames whose numbers are at their least and at their greatest.
func TestReadAtTheEnds(t *testing.T) {
	for _, set := range []func(f *api.Frame){
		func(f *api.Frame) { f.From, f.To = 0, 15 },
		func(f *api.Frame) { f.From, f.To = 15, 0 },
		func(f *api.Frame) { f.Ring.Epoch = api.Epoch{Count: 1, Founder: 15} },
		func(f *api.Frame) { f.Ring.Epoch = api.Epoch{Count: mostCount} },
		func(f *api.Frame) { f.Ring.Hop = 0 },
		func(f *api.Frame) { f.Ring.Hop = mostHop },
		func(f *api.Frame) { f.Ring.Entries[0].Latch = latch(0, api.Down, 1) },
		func(f *api.Frame) { f.Ring.Entries[2].Latch = latch(63, api.Up, mostGen) },
		func(f *api.Frame) { f.Ring.Entries[2].Award = -1 },
		func(f *api.Frame) { f.Ring.Entries[0].Bids[1].Ticks = mostTicks },
		func(f *api.Frame) { f.Ring.Entries = nil },
	} {
		f := token()
		set(&f)
		b, _ := plainBytes(f)
		if got, err := frame.Read(b); err != nil || !equal(got, f) {
			t.Errorf("Read of %v = %v, %v", b, got, err)
		}
	}
}

// TestReadOfFaults reads the bytes that frames that are not Valid would have: what no number's range tells is Valid's.
func TestReadOfFaults(t *testing.T) {
	for _, x := range tokenFaults() {
		f := token()
		x.do(&f)
		if f.Life != 0 || f.Seen != 0 || f.Out {
			continue // of these a token's bytes tell nothing
		}
		b, places := plainBytes(f)
		place, want := -1, x.want
		for k, y := range fields(f) {
			if y.n < y.low || y.n > y.high {
				place, want = places[k], api.ErrRange
				break
			}
		}
		checkRefused(t, x.name, b, place, want)
		if place < 0 {
			checkRefused(t, x.name+", and a byte behind", append(b, 0), -1, api.ErrShape)
		}
	}
}

func TestReadWhichError(t *testing.T) {
	b, places := plainBytes(token())
	two := bytes.Clone(b)
	two[places[0]], two[places[1]] = 1, 32
	checkRefused(t, "the first of two ranges", two, places[0], api.ErrRange)
	checkRefused(t, "a range, and a form behind it", []byte{80, 1, 32, 128, 0, 0, 0, 0}, 2, api.ErrRange)
	checkRefused(t, "a form, and a range behind it", []byte{80, 1, 128, 0, 32, 0, 0, 0}, 2, api.ErrShape)
	checkRefused(t, "a range, and an early end", []byte{80, 1, 0, 32}, 3, api.ErrRange)
	checkRefused(t, "a range, and a byte behind", []byte{80, 1, 0, 0, 0, 0, 4, 9}, 6, api.ErrRange)
	checkRefused(t, "Members that fall, and an early end", []byte{80, 2, 0, 0, 2, 0, 0, 4, 2, 0}, 10, api.ErrEnd)
	checkRefused(t, "Members that fall", []byte{80, 2, 0, 0, 2, 0, 0, 4, 2, 0, 0}, -1, api.ErrTwice)
	checkRefused(t, "no Members", []byte{80, 2, 0, 0, 2, 0, 0, 0, 0}, -1, api.ErrMany)
	checkRefused(t, "no Members, an Entry with a Bid", []byte{80, 2, 0, 0, 2, 0, 0, 0, 2, 8, 2, 2, 1, 2, 0, 0}, 13, api.ErrRange)
}

// P5.2, P5.3

// checkRead reads b: it is refused with nothing beside, or what is read is Valid, and has just these bytes.
func checkRead(t *testing.T, b []byte) bool {
	t.Helper()
	f, err := frame.Read(b)
	if err != nil {
		if !equal(f, api.Frame{}) {
			t.Errorf("Read of %v: %v beside %v", b, f, err)
		}
		return false
	}
	if again, err := frame.Bytes(f); err != nil || !bytes.Equal(again, b) || frame.Valid(f) != nil {
		t.Errorf("what is read of %v has bytes %v, %v", b, again, err)
	}
	return true
}

func TestReadHasJustTheseBytes(t *testing.T) {
	good := 0
	for _, f := range small() {
		b, _ := plainBytes(f)
		for i := range b {
			for x := range 256 {
				other := bytes.Clone(b)
				other[i] = byte(x)
				if checkRead(t, other) {
					good++
				}
				checkRead(t, append(append(bytes.Clone(b[:i]), byte(x)), b[i:]...))
			}
			checkRead(t, append(bytes.Clone(b[:i]), b[i+1:]...))
		}
	}
	if good < 1000 {
		t.Errorf("just %d of these were read", good)
	}
}

func TestReadOfAllShortBytes(t *testing.T) {
	for _, head := range [][]byte{{}, {80}, {80, 1}, {80, 2}, {80, 1, 0, 0, 0}, {80, 2, 0, 0, 2, 0, 0, 2}} {
		checkRead(t, head)
		for x := range 256 {
			checkRead(t, append(bytes.Clone(head), byte(x)))
			for y := range 256 {
				checkRead(t, append(bytes.Clone(head), byte(x), byte(y)))
			}
		}
	}
}

func TestReadOfMixedBytes(t *testing.T) {
	state := uint32(1)
	next := func(n int) int {
		state = state*1664525 + 1013904223
		return int(state>>8) % n
	}
	all := samples()
	for range 20000 {
		b, _ := plainBytes(all[next(6)])
		for range 1 + next(4) {
			b[next(len(b))] = byte(next(256))
		}
		checkRead(t, b[:next(len(b)+1)])
		checkRead(t, b)
	}
}

// P5.3

func TestUnlikeFramesHaveUnlikeBytes(t *testing.T) {
	frames := samples()
	for _, x := range edits() {
		f := token()
		x.do(&f)
		frames = append(frames, f)
		f = greatest()
		x.do(&f)
		frames = append(frames, f)
	}
	valid := 0
	for i, a := range frames {
		p, err := frame.Bytes(a)
		if err != nil {
			continue
		}
		valid++
		for k, b := range frames {
			q, err := frame.Bytes(b)
			if err == nil && bytes.Equal(p, q) != frame.Same(a, b) {
				t.Errorf("frames %d and %d: Same %v, and of the same bytes %v", i, k, frame.Same(a, b), bytes.Equal(p, q))
			}
		}
	}
	if valid < 25 {
		t.Errorf("just %d of these are Valid", valid)
	}
}

func TestBytesIsNewMemory(t *testing.T) {
	for i, f := range samples() {
		want, _ := plainBytes(f)
		first, _ := frame.Bytes(f)
		second, _ := frame.Bytes(f)
		fill(first, 99)
		third, _ := frame.Bytes(f)
		if !bytes.Equal(second, want) || !bytes.Equal(third, want) || !equal(f, samples()[i]) {
			t.Errorf("sample %d: what is written into its bytes is seen", i)
		}
	}
}

func TestReadIsNewMemory(t *testing.T) {
	for i, sample := range samples() {
		b, _ := plainBytes(sample)
		memory := append(bytes.Clone(b), 7, 7, 7)
		first, _ := frame.Read(memory[:len(b)])
		second, _ := frame.Read(memory[:len(b)])
		if !bytes.Equal(memory, append(bytes.Clone(b), 7, 7, 7)) {
			t.Errorf("sample %d: Read wrote into what was handed in", i)
		}
		fill(memory, 99)
		if !equal(first, sample) {
			t.Errorf("sample %d: what is written into its bytes is seen", i)
		}
		checkApart(t, "Read", first, sample)
		spoil(first)
		if !equal(second, sample) {
			t.Errorf("sample %d: two that were read share memory", i)
		}
	}
}
