package mark

import (
	"math"
	"slices"
	"testing"

	"umpire/api"
)

var kinds = []int{Readers, Writers}

var noKinds = []int{-1, 2, 3, -2, math.MaxInt, math.MinInt, 1 << 32, 1<<32 + 1}

var noSlots = []int{-1, api.MaxSlots, -12, 13, 23, 24, 52, 63, 64, 1 << 32, 1 << 40, math.MaxInt, math.MinInt}

// anyWords holds words that keys have, and such as none has: bits above both
// kinds too.
func anyWords() []uint64 {
	words := []uint64{0, 1, 8193, 8197, 1<<12 - 1, 1<<24 - 1 - (1<<12 - 1), 1<<24 - 1, 1 << 24, 1<<64 - 1<<24, 1<<64 - 1, 1 << 63}
	w := uint64(0x9E3779B97F4A7C15)
	for range 200 {
		w ^= w << 13
		w ^= w >> 7
		w ^= w << 17
		words = append(words, w, w&(1<<24-1), ^w)
	}
	return words
}

// place is the bit that the chapter tells of, written on its own: the lowest
// 12 are the readers', the next 12 the writers'.
func place(kind, slot int) uint64 {
	if kind == Writers {
		return 4096 << slot
	}
	return 1 << slot
}

func TestKindsAreCounted(t *testing.T) {
	if Readers != 0 || Writers != 1 {
		t.Error("the kinds are Readers 0 and Writers 1, not", Readers, Writers)
	}
}

func TestExamples(t *testing.T) {
	if w := With(1, Writers, 1); w != 8193 {
		t.Error("P2.1: With(1, Writers, 1) is 8193, not", w)
	}
	if s := Slots(8197, Readers); !slices.Equal(s, []int{0, 2}) {
		t.Error("P2.2: Slots(8197, Readers) is 0 2, not", s)
	}
	if w := With(With(0, Readers, 0), Writers, 1); w != 8193 {
		t.Error("P2.1: slot 0 has read, slot 1 writes: 8193, not", w)
	}
}

func TestHasAndWith(t *testing.T) {
	for _, w := range anyWords() {
		for _, kind := range kinds {
			for slot := range api.MaxSlots {
				p := place(kind, slot)
				if Has(w, kind, slot) != (w&p != 0) {
					t.Errorf("P2.1: Has(%#x, %d, %d) is %v", w, kind, slot, Has(w, kind, slot))
				}
				if got := With(w, kind, slot); got != w|p {
					t.Errorf("P2.1: With(%#x, %d, %d) is %#x, not %#x", w, kind, slot, got, w|p)
				}
			}
		}
	}
}

func TestDrop(t *testing.T) {
	for _, w := range anyWords() {
		for slot := range api.MaxSlots {
			want := w &^ (place(Readers, slot) | place(Writers, slot))
			if got := Drop(w, slot); got != want {
				t.Errorf("P2.1: Drop(%#x, %d) is %#x, not %#x", w, slot, got, want)
			}
		}
	}
}

func TestNoSuchBit(t *testing.T) {
	none := func(w uint64, kind, slot int) {
		if Has(w, kind, slot) {
			t.Errorf("P2.1: Has(%#x, %d, %d): there is no such bit", w, kind, slot)
		}
		if got := With(w, kind, slot); got != w {
			t.Errorf("P2.1: With(%#x, %d, %d) is %#x, not the same word", w, kind, slot, got)
		}
	}
	for _, w := range anyWords() {
		for _, kind := range noKinds {
			for slot := range api.MaxSlots {
				none(w, kind, slot)
			}
		}
		for _, slot := range noSlots {
			for _, kind := range slices.Concat(kinds, noKinds) {
				none(w, kind, slot)
			}
			if got := Drop(w, slot); got != w {
				t.Errorf("P2.1: Drop(%#x, %d) is %#x, not the same word", w, slot, got)
			}
		}
	}
}

// listed is the slots of the kind, but one, worked out from the word's bits.
func listed(w uint64, kind, but int) []int {
	var slots []int
	for slot := range 12 {
		if slot != but && w&place(kind, slot) != 0 {
			slots = append(slots, slot)
		}
	}
	return slots
}

func TestSlotsAndOthers(t *testing.T) {
	for _, w := range anyWords() {
		for _, kind := range kinds {
			if got, want := Slots(w, kind), listed(w, kind, -1); !slices.Equal(got, want) {
				t.Errorf("P2.2: Slots(%#x, %d) is %v, not %v", w, kind, got, want)
			}
			for slot := range api.MaxSlots {
				if got, want := Others(w, kind, slot), listed(w, kind, slot); !slices.Equal(got, want) {
					t.Errorf("P2.2: Others(%#x, %d, %d) is %v, not %v", w, kind, slot, got, want)
				}
			}
			for _, slot := range noSlots {
				if got, want := Others(w, kind, slot), listed(w, kind, -1); !slices.Equal(got, want) {
					t.Errorf("P2.2: Others(%#x, %d, %d) is %v, not %v", w, kind, slot, got, want)
				}
			}
		}
		for _, kind := range noKinds {
			if len(Slots(w, kind)) != 0 || len(Others(w, kind, 0)) != 0 {
				t.Errorf("P2.2: of the kind %d there are no slots in %#x", kind, w)
			}
		}
	}
}

func TestListsAreTheCallersOwn(t *testing.T) {
	w := uint64(1<<24 - 1)
	Slots(w, Readers)[0] = 99
	Others(w, Writers, 0)[0] = 99
	if Slots(w, Readers)[0] != 0 || Others(w, Writers, 0)[0] != 1 {
		t.Error("R6: to write into a list has changed what is told later")
	}
}

func TestDroppedIsNoneOfEitherKind(t *testing.T) {
	for _, w := range anyWords() {
		for slot := range api.MaxSlots {
			got := Drop(w, slot)
			for _, kind := range kinds {
				if Has(got, kind, slot) || slices.Contains(Slots(got, kind), slot) {
					t.Errorf("P2.3: slot %d is dropped from %#x, and yet of kind %d", slot, w, kind)
				}
				if !slices.Equal(Slots(got, kind), Others(w, kind, slot)) {
					t.Errorf("P2.3: to drop slot %d from %#x has touched others of kind %d", slot, w, kind)
				}
			}
		}
	}
}
