// Package status is layer 1: see shared/doc/01-status.md.
package status

import "umpire/api"

// The states.
const (
	Free = iota
	Beginning
	Active
	Committing
	Committed
	Aborted
	Dead
	Clear
)

// The sides.
const (
	Out = iota
	In
)

// How wide a word's parts are; a side has a bit for each slot.
const (
	sideBits  = api.MaxSlots
	flagBits  = 1
	stateBits = 3
	genBits   = 32
)

// Where they begin. Both sides, and both past bits, stand in the order of the
// sides' numbers, so that a side's place follows from its number.
const (
	sidesAt = 0
	pastsAt = sidesAt + 2*sideBits
	busyAt  = pastsAt + 2*flagBits
	stateAt = busyAt + flagBits
)

// Status is a transaction's.
type Status struct {
	Gen, State            int
	Busy, InPast, OutPast bool
	In, Out               int
}

// Pack holds what it packed against what was given: a part that its bits do
// not hold comes back as another one. Only Gen has more bits than it may use.
func Pack(s Status) (uint64, bool) {
	var w uint64
	at := 0
	put := func(part uint64, width int) {
		w |= part & ones(width) << at
		at += width
	}
	put(uint64(s.Out), sideBits)
	put(uint64(s.In), sideBits)
	put(flag(s.OutPast), flagBits)
	put(flag(s.InPast), flagBits)
	put(flag(s.Busy), flagBits)
	put(uint64(s.State), stateBits)
	put(uint64(s.Gen), genBits)
	if s.Gen > api.MaxGen+1 || Unpack(w) != s {
		return 0, false
	}
	return w, true
}

func Unpack(w uint64) Status {
	take := func(width int) int {
		part := w & ones(width)
		w >>= width
		return int(part)
	}
	// Each part is what is lowest once those ahead of it are taken: the order counts.
	var s Status
	s.Out = take(sideBits)
	s.In = take(sideBits)
	s.OutPast = take(flagBits) == 1
	s.InPast = take(flagBits) == 1
	s.Busy = take(flagBits) == 1
	s.State = take(stateBits)
	s.Gen = take(genBits)
	return s
}

func Move(w uint64, state int, busy bool) uint64 {
	w &^= ones(flagBits)<<busyAt | ones(stateBits)<<stateAt
	return w | flag(busy)<<busyAt | uint64(state)&ones(stateBits)<<stateAt
}

func Has(w uint64, side, slot int) bool { return w&slotBit(side, slot) != 0 }

func With(w uint64, side, slot int) uint64 { return w | slotBit(side, slot) }

func Any(w uint64, side int) bool {
	if !isSide(side) {
		return false
	}
	return w&(ones(sideBits)<<sideAt(side)|pastBit(side)) != 0
}

func Drop(w uint64, slot int, past bool) uint64 {
	for side := Out; side <= In; side++ {
		if !Has(w, side, slot) {
			continue
		}
		w &^= slotBit(side, slot)
		if past {
			w |= pastBit(side)
		}
	}
	return w
}

func isSide(side int) bool { return side == Out || side == In }

func sideAt(side int) int { return sidesAt + side*sideBits }

func pastBit(side int) uint64 { return 1 << (pastsAt + side) }

// slotBit is 0 where there is no such bit: to ask for it, or to lay it, does
// nothing then.
func slotBit(side, slot int) uint64 {
	if !isSide(side) || slot < 0 || slot >= api.MaxSlots {
		return 0
	}
	return 1 << (sideAt(side) + slot)
}

func ones(width int) uint64 { return 1<<width - 1 }

func flag(is bool) uint64 {
	if is {
		return 1
	}
	return 0
}
