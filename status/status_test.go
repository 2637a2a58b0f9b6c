package status

import (
	"math"
	"testing"

	"umpire/api"
)

const full = uint64(math.MaxUint64)

// anyWords are words of every kind: none, all, each single bit, each bit
// missing, and a fixed mixture of bits.
func anyWords() []uint64 {
	l := []uint64{0, full, 3 << 62, 1<<62 - 1}
	for i := range 64 {
		l = append(l, 1<<i, full&^(1<<i))
	}
	mixed := uint64(0x9e3779b97f4a7c15)
	for range 200 {
		mixed ^= mixed << 13
		mixed ^= mixed >> 7
		mixed ^= mixed << 17
		l = append(l, mixed)
	}
	return l
}

// noSides and noSlots are numbers of which there is no bit; some would reach
// another part's bit, or go round to a good one, if they were shifted by.
func noSides() []int { return []int{-1, 2, 3, 12, -12, 1 << 32, math.MaxInt, math.MinInt} }

func noSlots() []int {
	return []int{-1, -12, 12, 13, 24, 63, 64, 1 << 32, 1 << 62, math.MaxInt, math.MinInt}
}

func TestNumbersOfStatesAndSides(t *testing.T) {
	states := [...]int{Free, Beginning, Active, Committing, Committed, Aborted, Dead, Clear}
	if states != [...]int{0, 1, 2, 3, 4, 5, 6, 7} {
		t.Error("states:", states)
	}
	if Out != 0 || In != 1 {
		t.Error("sides:", Out, In)
	}
}

// P1.1: each part's least and greatest one, and where it stands.
func TestPackedParts(t *testing.T) {
	for _, x := range []struct {
		s Status
		w uint64
	}{
		{Status{}, 0},
		{Status{Out: 1}, 1},
		{Status{Out: 1 << 11}, 1 << 11},
		{Status{Out: 4095}, 0xfff},
		{Status{In: 1}, 1 << 12},
		{Status{In: 1 << 11}, 1 << 23},
		{Status{In: 4095}, 0xfff << 12},
		{Status{OutPast: true}, 1 << 24},
		{Status{InPast: true}, 1 << 25},
		{Status{Busy: true}, 1 << 26},
		{Status{State: Beginning}, 1 << 27},
		{Status{State: Committed}, 4 << 27},
		{Status{State: Clear}, 7 << 27},
		{Status{Gen: 1}, 1 << 30},
		{Status{Gen: api.MaxGen}, (1<<30 - 1) << 30},
		{Status{Gen: api.MaxGen + 1}, 1 << 60},
		{Status{Gen: 1, State: Active, Out: 4}, 1342177284},
		{Status{Gen: 5, State: Dead, Busy: true, OutPast: true, In: 0xa5, Out: 0x801}, 5<<30 | 6<<27 | 1<<26 | 1<<24 | 0xa5<<12 | 0x801},
		{Status{Gen: api.MaxGen + 1, State: Clear, Busy: true, InPast: true, OutPast: true, In: 4095, Out: 4095}, 1<<60 | 1<<30 - 1},
	} {
		if w, is := Pack(x.s); w != x.w || !is {
			t.Errorf("P1.1: Pack(%+v) = %#x, %v, not %#x", x.s, w, is, x.w)
		}
		if s := Unpack(x.w); s != x.s {
			t.Errorf("P1.1: Unpack(%#x) = %+v, not %+v", x.w, s, x.s)
		}
	}
}

// P1.1: a part out of its bounds, alone and beside others that are good.
func TestPackRefuses(t *testing.T) {
	var wrong []Status
	for _, x := range []int{-1, -4095, 4096, 8192, 1 << 24, 1<<32 + 1, math.MinInt, math.MaxInt} {
		wrong = append(wrong, Status{Out: x}, Status{In: x})
	}
	for _, x := range []int{-1, -8, 8, 9, 1 << 32, math.MinInt, math.MaxInt} {
		wrong = append(wrong, Status{State: x})
	}
	for _, x := range []int{-1, api.MaxGen + 2, 1<<32 - 1, 1 << 32, 1<<32 + 1, 1 << 34, math.MinInt, math.MaxInt} {
		wrong = append(wrong, Status{Gen: x})
	}
	wrong = append(wrong,
		Status{Gen: 1, State: Active, Busy: true, In: 3, Out: 4096},
		Status{Gen: api.MaxGen + 2, State: Clear, InPast: true, OutPast: true, In: 4095, Out: 4095},
		Status{Gen: 7, State: 8, Out: -1})
	for _, s := range wrong {
		if w, is := Pack(s); w != 0 || is {
			t.Errorf("P1.1: Pack(%+v) = %#x, %v", s, w, is)
		}
	}
}

// P1.1: of any word, also of those that Pack never tells.
func TestUnpackAnyWord(t *testing.T) {
	for _, w := range anyWords() {
		want := Status{
			Out:     int(w % 4096),
			In:      int(w / 4096 % 4096),
			OutPast: w>>24%2 == 1,
			InPast:  w>>25%2 == 1,
			Busy:    w>>26%2 == 1,
			State:   int(w >> 27 % 8),
			Gen:     int(w >> 30 % (1 << 32)),
		}
		if s := Unpack(w); s != want {
			t.Errorf("P1.1: Unpack(%#x) = %+v, not %+v", w, s, want)
		}
		if Unpack(w) != Unpack(w^3<<62) {
			t.Errorf("P1.1: Unpack(%#x) hangs on the two highest bits", w)
		}
	}
}

// P1.2: state and Busy are as they are asked for, no other bit is touched.
func TestMove(t *testing.T) {
	for _, w := range anyWords() {
		for state := Free; state <= Clear; state++ {
			rest := w &^ (15 << 26)
			if x := Move(w, state, false); x != rest|uint64(state)<<27 {
				t.Errorf("P1.2: Move(%#x, %d, false) = %#x", w, state, x)
			}
			if x := Move(w, state, true); x != rest|uint64(state)<<27|1<<26 {
				t.Errorf("P1.2: Move(%#x, %d, true) = %#x", w, state, x)
			}
		}
	}
}

// P1.2: of a number that is no state, the lowest three bits count.
func TestMoveToNoState(t *testing.T) {
	for _, x := range []struct{ state, lowest int }{{8, 0}, {9, 1}, {15, 7}, {1 << 40, 0}, {-1, 7}, {-8, 0}, {-3, 5}, {math.MaxInt, 7}, {math.MinInt, 0}} {
		for _, w := range anyWords() {
			for _, busy := range []bool{false, true} {
				if Move(w, x.state, busy) != Move(w, x.lowest, busy) {
					t.Errorf("P1.2: Move(%#x, %d, %v) is not that of %d", w, x.state, busy, x.lowest)
				}
			}
		}
	}
}

// P1.2: each slot of either side has a bit of its own, where P1.1 says.
func TestHasAndWith(t *testing.T) {
	for slot := range api.MaxSlots {
		for side, b := range map[int]uint64{Out: 1 << slot, In: 4096 << slot} {
			for _, w := range anyWords() {
				if Has(w, side, slot) != (w&b != 0) {
					t.Errorf("P1.2: Has(%#x, %d, %d)", w, side, slot)
				}
				if x := With(w, side, slot); x != w|b {
					t.Errorf("P1.2: With(%#x, %d, %d) = %#x", w, side, slot, x)
				}
			}
		}
	}
}

// P1.2: a side's slots and its own past bit count, nothing else.
func TestAny(t *testing.T) {
	for side, bits := range map[int]uint64{Out: 0xfff | 1<<24, In: 0xfff<<12 | 1<<25} {
		for _, w := range anyWords() {
			if Any(w, side) != (w&bits != 0) {
				t.Errorf("P1.2: Any(%#x, %d)", w, side)
			}
		}
		if Any(full&^bits, side) {
			t.Errorf("P1.2: Any of side %d looks at bits of others", side)
		}
	}
}

// P1.2: both sides lose the slot; just those that had it get their past bit.
func TestDrop(t *testing.T) {
	for slot := range api.MaxSlots {
		out, in := uint64(1)<<slot, uint64(4096)<<slot
		for _, w := range anyWords() {
			left := w &^ (out | in)
			if x := Drop(w, slot, false); x != left {
				t.Errorf("P1.2: Drop(%#x, %d, false) = %#x", w, slot, x)
			}
			if w&out != 0 {
				left |= 1 << 24
			}
			if w&in != 0 {
				left |= 1 << 25
			}
			if x := Drop(w, slot, true); x != left {
				t.Errorf("P1.2: Drop(%#x, %d, true) = %#x", w, slot, x)
			}
		}
	}
}

// P1.2: each way in which a slot can be on the sides, with nothing else there.
func TestDropPastBits(t *testing.T) {
	for _, x := range []struct{ w, kept, past uint64 }{
		{0, 0, 0},
		{1 << 11, 0, 1 << 24},
		{1 << 23, 0, 1 << 25},
		{1<<11 | 1<<23, 0, 3 << 24},
		{1 << 24, 1 << 24, 1 << 24},
		{1<<23 | 1<<24, 1 << 24, 3 << 24},
		{1<<10 | 1<<12, 1<<10 | 1<<12, 1<<10 | 1<<12},
	} {
		if kept, past := Drop(x.w, 11, false), Drop(x.w, 11, true); kept != x.kept || past != x.past {
			t.Errorf("P1.2: Drop(%#x, 11) = %#x; past: %#x", x.w, kept, past)
		}
	}
	if w := With(0, In, 0); w != 4096 || Drop(w, 0, true) != 33554432 {
		t.Errorf("P1.2: With(0, In, 0) = %d, Drop of that %d", w, Drop(w, 0, true))
	}
}

// P1.2: of a side or a slot that there is not, false and the same word.
func TestNoSuchBit(t *testing.T) {
	none := func(w uint64, side, slot int) {
		t.Helper()
		if Has(w, side, slot) || With(w, side, slot) != w {
			t.Errorf("P1.2: %#x has, or gets, a bit of side %d, slot %d", w, side, slot)
		}
	}
	for _, w := range anyWords() {
		for _, side := range noSides() {
			for slot := range api.MaxSlots {
				none(w, side, slot)
			}
			for _, slot := range noSlots() {
				none(w, side, slot)
			}
			if Any(w, side) {
				t.Errorf("P1.2: Any(%#x, %d)", w, side)
			}
		}
		for _, slot := range noSlots() {
			none(w, Out, slot)
			none(w, In, slot)
			if Drop(w, slot, true) != w || Drop(w, slot, false) != w {
				t.Errorf("P1.2: Drop(%#x, %d) changes the word", w, slot)
			}
		}
	}
}

// P1.3: each mixture of edges and middles of the parts.
func TestPackedIsUnpackedAsItWas(t *testing.T) {
	sides := []int{0, 1, 0x5a5, 1 << 11, 4095}
	for _, gen := range []int{0, 1, 12345, api.MaxGen, api.MaxGen + 1} {
		for state := Free; state <= Clear; state++ {
			for flags := range 8 {
				for _, in := range sides {
					for _, out := range sides {
						s := Status{Gen: gen, State: state, Busy: flags&1 != 0, InPast: flags&2 != 0, OutPast: flags&4 != 0, In: in, Out: out}
						if w, is := Pack(s); !is || Unpack(w) != s || w>>62 != 0 {
							t.Errorf("P1.3: %+v: %#x, %v, %+v", s, w, is, Unpack(w))
						}
					}
				}
			}
		}
	}
}

// P1.3: what Pack takes, of any word's parts, gives the word back.
func TestUnpackedIsPackedAsItWas(t *testing.T) {
	for _, w := range anyWords() {
		inBounds := w>>30%(1<<32) <= api.MaxGen+1
		x, is := Pack(Unpack(w))
		if is != inBounds || is && x != w&^(3<<62) || !is && x != 0 {
			t.Errorf("P1.3: %#x: %#x, %v", w, x, is)
		}
	}
}

// P1.3: Drop undoes With, where neither side had the slot, but for past bits.
func TestDropBehindWith(t *testing.T) {
	for _, w := range anyWords() {
		for slot := range api.MaxSlots {
			for side := Out; side <= In; side++ {
				if Has(w, Out, slot) || Has(w, In, slot) {
					continue
				}
				laid := With(w, side, slot)
				if Drop(laid, slot, false) != w {
					t.Errorf("P1.3: %#x, side %d, slot %d: %#x", w, side, slot, Drop(laid, slot, false))
				}
				if x := Drop(laid, slot, true); x != w|1<<(24+side) || !Any(x, side) {
					t.Errorf("P1.3: %#x, side %d, slot %d, past: %#x", w, side, slot, x)
				}
			}
		}
	}
}
