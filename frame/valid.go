package frame

import (
	"slices"

	"paternoster/api"
	"paternoster/epoch"
)

// The limits that package api has no names for.
const (
	maxKept    = 1<<48 - 1 // of a life, and of a count seen: what a store has room for
	maxGen     = 1<<31 - 1
	maxEntries = 2 * api.MaxFloors // a call up and a call down at each floor
	nobody     = -1                // who a call is awarded to, as long as it is not
)

// Valid is nil, if f is one that may be sent; else the first fault of it.
func Valid(f api.Frame) error {
	if !isKind(f.Kind) {
		return api.ErrKind
	}
	if !isCar(f.From) || !isCar(f.To) {
		return api.ErrRange
	}
	if f.Kind == api.Beat {
		return validBeat(f)
	}
	return validToken(f)
}

// isKind is whether there is such a frame.
func isKind(kind int) bool {
	return kind == api.Beat || kind == api.Token
}

// isCar is whether a house may have such a car.
func isCar(car int) bool {
	return car >= 0 && car < api.MaxCars
}

// isKept is whether n is a life, or a count seen.
func isKept(n int64) bool {
	return n >= 0 && n <= maxKept
}

// validBeat is the first fault of what a beat has of its own.
func validBeat(f api.Frame) error {
	if !isKept(f.Life) || !isKept(f.Seen) || !sameRing(f.Ring, api.Ring{}) {
		return api.ErrRange
	}
	return nil
}

// validToken is the first fault of what a token has of its own.
func validToken(f api.Frame) error {
	ring := f.Ring
	if f.Life != 0 || f.Seen != 0 || f.Out || !epoch.Valid(ring.Epoch) || ring.Hop < 0 || ring.Hop > api.MaxHop {
		return api.ErrRange
	}
	if len(ring.Members) > api.MaxCars || len(ring.Members) == 0 || len(ring.Entries) > maxEntries {
		return api.ErrMany
	}
	if err := validMembers(ring.Members); err != nil {
		return err
	}
	return validEntries(ring)
}

// validMembers is the first fault of members that are not too many.
func validMembers(members []int) error {
	for _, car := range members {
		if !isCar(car) {
			return api.ErrRange
		}
	}
	if !rise(members) {
		return api.ErrTwice
	}
	return nil
}

// rise is whether each of cars is greater than the one ahead of it.
func rise(cars []int) bool {
	for i := 1; i < len(cars); i++ {
		if cars[i] <= cars[i-1] {
			return false
		}
	}
	return true
}

// validEntries is the first fault of a ring's entries, one behind the other.
func validEntries(ring api.Ring) error {
	for i, e := range ring.Entries {
		if !isLatch(e.Latch) || e.Award != nobody && !slices.Contains(ring.Members, e.Award) {
			return api.ErrRange
		}
		if i > 0 && !ahead(ring.Entries[i-1].Latch.Call, e.Latch.Call) {
			return api.ErrTwice
		}
		if err := validBids(e.Bids, ring.Members); err != nil {
			return err
		}
	}
	return nil
}

// isLatch is whether l has numbers that some house's may have. A frame knows no house: a call that leads out of one is let by.
func isLatch(l api.Latch) bool {
	floor, dir := l.Call.Floor, l.Call.Dir
	return floor >= 0 && floor < api.MaxFloors && (dir == api.Up || dir == api.Down) && l.Gen >= 1 && l.Gen <= maxGen
}

// ahead is whether a comes ahead of b in the calls' order.
func ahead(a, b api.Call) bool {
	if a.Floor != b.Floor {
		return a.Floor < b.Floor
	}
	return a.Dir == api.Down && b.Dir == api.Up
}

// validBids is the first fault of an entry's bids.
func validBids(bids []api.Bid, members []int) error {
	if len(bids) > len(members) {
		return api.ErrMany
	}
	cars := make([]int, len(bids))
	for i, b := range bids {
		if !slices.Contains(members, b.Car) || b.Ticks < 0 || b.Ticks > api.MaxTicks {
			return api.ErrRange
		}
		cars[i] = b.Car
	}
	if !rise(cars) {
		return api.ErrTwice
	}
	return nil
}
