package frame

import (
	"math"

	"paternoster/api"
	"paternoster/wire"
)

// mark is the first byte of each frame; its kind is the second. These two are its head.
const (
	mark     = 80
	headSize = 2
)

// Bytes is a valid frame as bytes.
func Bytes(f api.Frame) ([]byte, error) {
	if err := Valid(f); err != nil {
		return nil, err
	}
	b := put([]byte{mark, byte(f.Kind)}, f.From, f.To)
	if f.Kind == api.Beat {
		return putBeat(b, f), nil
	}
	return putRing(b, f.Ring), nil
}

// put appends each of list, as wire has it, to b, which is the frame's own: wire.Put of b would copy all of it for each number.
func put[N int | int64](b []byte, list ...N) []byte {
	for _, n := range list {
		b = append(b, wire.Put(nil, int64(n))...)
	}
	return b
}

// putBeat appends what a beat has of its own.
func putBeat(b []byte, f api.Frame) []byte {
	b = put(b, f.Life, f.Seen)
	if f.Out {
		return put(b, 1)
	}
	return put(b, 0)
}

// putRing appends a token's ring.
func putRing(b []byte, ring api.Ring) []byte {
	b = put(b, ring.Epoch.Count)
	b = put(b, ring.Epoch.Founder)
	b = put(b, ring.Hop)
	b = put(b, len(ring.Members))
	b = put(b, ring.Members...)
	b = put(b, len(ring.Entries))
	for _, e := range ring.Entries {
		b = putEntry(b, e)
	}
	return b
}

// putEntry appends an entry of a ring.
func putEntry(b []byte, e api.Entry) []byte {
	b = put(b, e.Latch.Call.Floor, e.Latch.Call.Dir, e.Latch.Gen, e.Award, len(e.Bids))
	for _, bid := range e.Bids {
		b = put(b, bid.Car, bid.Ticks)
	}
	return b
}

// Read is the valid frame that has these bytes.
func Read(b []byte) (api.Frame, error) {
	if len(b) < 1 || b[0] != mark {
		return api.Frame{}, api.ErrShape
	}
	if len(b) < headSize || !isKind(int(b[1])) {
		return api.Frame{}, api.ErrKind
	}
	f, err := readBody(behindHead(b), int(b[1]))
	if err != nil {
		return api.Frame{}, err
	}
	if err := Valid(f); err != nil {
		return api.Frame{}, err
	}
	return f, nil
}

// behindHead is a reader of b that has its head behind it. Both bytes of that are below 128, and so numbers to the reader: thus its places are those of b.
func behindHead(b []byte) *wire.Reader {
	r := wire.NewReader(b)
	for range headSize {
		r.Num(math.MinInt64, math.MaxInt64)
	}
	return r
}

// readBody is the frame of that kind that r has, to the last byte; what it has may still not be valid.
func readBody(r *wire.Reader, kind int) (api.Frame, error) {
	f := api.Frame{Kind: kind, From: readCar(r), To: readCar(r)}
	if kind == api.Beat {
		f.Life, f.Seen, f.Out = r.Num(0, maxKept), r.Num(0, maxKept), r.Bool()
	} else {
		f.Ring = readRing(r)
	}
	if err := r.Err(); err != nil {
		return api.Frame{}, err
	}
	if r.Left() > 0 {
		return api.Frame{}, api.ErrShape
	}
	return f, nil
}

// readInt is the next number, which has to be from low to high. Behind the reader's first error it is 0, so that what is counted by it ends.
func readInt(r *wire.Reader, low, high int) int {
	return int(r.Num(int64(low), int64(high)))
}

// readCar is the next number, which has to be a car.
func readCar(r *wire.Reader) int {
	return readInt(r, 0, api.MaxCars-1)
}

// readRing is a token's ring.
func readRing(r *wire.Reader) api.Ring {
	ring := api.Ring{
		Epoch: api.Epoch{Count: r.Num(1, api.MaxCount), Founder: readCar(r)},
		Hop:   r.Num(0, api.MaxHop),
	}
	for range readInt(r, 0, api.MaxCars) {
		ring.Members = append(ring.Members, readCar(r))
	}
	for range readInt(r, 0, maxEntries) {
		ring.Entries = append(ring.Entries, readEntry(r, len(ring.Members)))
	}
	return ring
}

// readEntry is an entry of a ring of so many members.
func readEntry(r *wire.Reader, members int) api.Entry {
	e := api.Entry{
		Latch: api.Latch{
			Call: api.Call{Floor: readInt(r, 0, api.MaxFloors-1), Dir: readInt(r, api.Down, api.Up)},
			Gen:  readInt(r, 1, maxGen),
		},
		Award: readInt(r, nobody, api.MaxCars-1),
	}
	for range readInt(r, 0, members) {
		e.Bids = append(e.Bids, api.Bid{Car: readCar(r), Ticks: readInt(r, 0, api.MaxTicks)})
	}
	return e
}
