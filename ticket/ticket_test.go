package ticket

import (
	"math"
	"testing"

	"umpire/api"
)

var gens = []int{0, 1, 2, 5, 15, 16, 17, 1<<16 - 1, 1 << 16, 1<<28 - 1, 1 << 28, 1<<30 - 2, 1<<30 - 1}

// noSlots and noGens hold such, too, as would look right if only their low
// bits were taken.
var noSlots = []int{-1, -2, -15, -16, 12, 13, 14, 15, 16, 17, 1 << 32, 1<<60 + 2, 1 << 60, math.MaxInt, math.MinInt}

var noGens = []int{-1, -2, -16, 1 << 30, 1<<30 + 1, 1 << 32, 1<<32 + 5, 1<<60 - 1, 1 << 60, 1<<60 + 5, math.MaxInt, math.MinInt}

// anyWords holds words that tickets have, and such as none has.
func anyWords() []uint64 {
	words := []uint64{1<<34 - 16, 1<<34 - 15, 1<<34 - 4, 1<<34 - 1, 1 << 34, 1<<34 + 1, 1<<36 + 83, 1 << 63, 1<<63 + 1, 1<<64 - 16, 1<<64 - 15, 1<<64 - 4, 1<<64 - 1}
	for w := range uint64(100) {
		words = append(words, w)
	}
	w := uint64(0x9E3779B97F4A7C15)
	for range 200 {
		w ^= w << 13
		w ^= w >> 7
		w ^= w << 17
		words = append(words, w, w&(1<<34-1), w&^15, w&(1<<34-16))
	}
	return words
}

func TestExamples(t *testing.T) {
	if h, ok := Make(2, 5); h != 83 || !ok {
		t.Error("P4.1: Make(2, 5) is 83, not", h, ok)
	}
	if slot, gen, ok := Of(83, 3); slot != 2 || gen != 5 || !ok {
		t.Error("P4.2: Of(83, 3) is 2, 5, not", slot, gen, ok)
	}
	if slot, gen, ok := Of(83, 2); slot != 0 || gen != 0 || ok {
		t.Error("P4.2: Of(83, 2) is none, not", slot, gen, ok)
	}
}

func TestMake(t *testing.T) {
	for slot := range api.MaxSlots {
		for _, gen := range gens {
			want := uint64(gen)*16 + uint64(slot) + 1
			if h, ok := Make(slot, gen); h != want || !ok {
				t.Errorf("P4.1: Make(%d, %d) is %d %v, not %d", slot, gen, h, ok, want)
			}
		}
	}
}

func TestMakeRefuses(t *testing.T) {
	refused := func(slot, gen int) {
		if h, ok := Make(slot, gen); h != 0 || ok {
			t.Errorf("P4.1: Make(%d, %d) is %d %v, and there is no such ticket", slot, gen, h, ok)
		}
	}
	for _, gen := range noGens {
		for slot := range api.MaxSlots {
			refused(slot, gen)
		}
	}
	for _, slot := range noSlots {
		for _, gen := range gens {
			refused(slot, gen)
		}
		for _, gen := range noGens {
			refused(slot, gen)
		}
	}
}

func TestSlotAndGenOfAnyWord(t *testing.T) {
	for _, h := range anyWords() {
		want, is := int(h%16)-1, true
		if want < 0 || want >= 12 {
			want, is = 0, false
		}
		if slot, ok := Slot(h); slot != want || ok != is {
			t.Errorf("P4.1: Slot(%#x) is %d %v, not %d %v", h, slot, ok, want, is)
		}
		gen := 1 << 30
		if h/16 < 1<<30 {
			gen = int(h / 16)
		}
		if got := Gen(h); got != gen {
			t.Errorf("P4.1: Gen(%#x) is %d, not %d", h, got, gen)
		}
	}
}

func TestOfAnyWord(t *testing.T) {
	for _, h := range anyWords() {
		for _, slots := range []int{math.MinInt, -1, 0, 1, 2, 3, 4, 5, 6, 7, 8, 9, 10, 11, 12, 13, 16, 1 << 32, math.MaxInt} {
			wantSlot, wantGen := int(h%16)-1, int(h/16)
			is := wantSlot >= 0 && wantSlot < 12 && wantSlot < slots && h/16 < 1<<30
			if !is {
				wantSlot, wantGen = 0, 0
			}
			if slot, gen, ok := Of(h, slots); slot != wantSlot || gen != wantGen || ok != is {
				t.Errorf("P4.2: Of(%#x, %d) is %d %d %v, not %d %d %v", h, slots, slot, gen, ok, wantSlot, wantGen, is)
			}
		}
	}
}

func TestWhatIsMadeIsTakenApartAsItWas(t *testing.T) {
	for slot := range api.MaxSlots {
		for _, gen := range gens {
			h, _ := Make(slot, gen)
			if s, ok := Slot(h); s != slot || !ok || Gen(h) != gen {
				t.Errorf("P4.3: the ticket of slot %d, generation %d has %d %v and %d", slot, gen, s, ok, Gen(h))
			}
			for slots := range api.MaxSlots + 1 {
				s, g, ok := Of(h, slots)
				if ok != (slot < slots) || ok && (s != slot || g != gen) {
					t.Errorf("P4.3: of slot %d, generation %d, where there are %d slots: %d %d %v", slot, gen, slots, s, g, ok)
				}
			}
		}
	}
}

func TestTicketsAreTheSameJustIfTheirPartsAre(t *testing.T) {
	seen := map[uint64][2]int{}
	for slot := range api.MaxSlots {
		for _, gen := range gens {
			h, _ := Make(slot, gen)
			if again, _ := Make(slot, gen); again != h {
				t.Errorf("P4.3: slot %d, generation %d has two tickets, %d and %d", slot, gen, h, again)
			}
			if other, is := seen[h]; is {
				t.Errorf("P4.3: %v and slot %d, generation %d have one ticket, %d", other, slot, gen, h)
			}
			seen[h] = [2]int{slot, gen}
		}
	}
}
