package tally

import (
	"math"
	"testing"

	"umpire/api"
)

var seqs = []uint64{0, 1, 2, 5, 15, 16, 17, 1<<32 - 1, 1 << 32, 1<<40 - 2, 1<<40 - 1}

var noSeqs = []uint64{1 << 40, 1<<40 + 1, 1<<60 - 1, 1 << 60, 1<<60 + 5, 1 << 63, 1<<64 - 16, 1<<64 - 1}

// noPendings holds such, too, as would look right if only their low bits were
// taken.
var noPendings = []int{-2, -3, -16, -17, 12, 13, 14, 15, 16, 1 << 32, 1<<32 - 1, 1 << 60, math.MaxInt, math.MinInt}

// anyWords holds words that tallies have, and such as none has.
func anyWords() []uint64 {
	words := []uint64{0, 1, 12, 13, 14, 15, 16, 80, 99, 1<<44 - 16, 1<<44 - 1, 1 << 44, 1<<64 - 16, 1<<64 - 1, 1 << 63}
	w := uint64(0x9E3779B97F4A7C15)
	for range 200 {
		w ^= w << 13
		w ^= w >> 7
		w ^= w << 17
		words = append(words, w, w&(1<<44-1), w&(1<<44-16), w&^15)
	}
	return words
}

func TestExamples(t *testing.T) {
	w, ok := Pack(Tally{Seq: 5, Pending: -1})
	if w != 80 || !ok {
		t.Error("P3.1: Pack(Seq 5, none pending) is 80, not", w, ok)
	}
	if w, ok = Next(w, 2); w != 99 || !ok {
		t.Error("P3.2: Next(80, 2) is 99, not", w, ok)
	}
	if Settled(99) != 96 || Past(6, 5) || !Past(5, 5) {
		t.Error("P3.2:", Settled(99), Past(6, 5), Past(5, 5))
	}
}

func TestPackAndUnpack(t *testing.T) {
	for _, seq := range seqs {
		for pending := -1; pending < api.MaxSlots; pending++ {
			tally := Tally{Seq: seq, Pending: pending}
			want := seq*16 + uint64(pending+1)
			w, ok := Pack(tally)
			if w != want || !ok {
				t.Errorf("P3.1: Pack(%v) is %d %v, not %d", tally, w, ok, want)
			}
			if got := Unpack(w); got != tally {
				t.Errorf("P3.1: Unpack(%d) is %v, not %v", w, got, tally)
			}
		}
	}
}

func TestPackRefuses(t *testing.T) {
	refused := func(tally Tally) {
		if w, ok := Pack(tally); w != 0 || ok {
			t.Errorf("P3.1: Pack(%v) is %d %v, and there is no such word", tally, w, ok)
		}
	}
	for _, seq := range noSeqs {
		for pending := -1; pending < api.MaxSlots; pending++ {
			refused(Tally{Seq: seq, Pending: pending})
		}
	}
	for _, pending := range noPendings {
		for _, seq := range append(seqs, noSeqs...) {
			refused(Tally{Seq: seq, Pending: pending})
		}
	}
}

func TestUnpackOfAnyWord(t *testing.T) {
	for _, w := range anyWords() {
		want := Tally{Seq: w / 16, Pending: int(w%16) - 1}
		if got := Unpack(w); got != want {
			t.Errorf("P3.1: Unpack(%#x) is %v, not %v", w, got, want)
		}
	}
}

func TestNext(t *testing.T) {
	for _, w := range anyWords() {
		for slot := range api.MaxSlots {
			var want uint64
			is := w%16 == 0 && w/16 < api.MaxSeq
			if is {
				want = w + 17 + uint64(slot)
			}
			if got, ok := Next(w, slot); got != want || ok != is {
				t.Errorf("P3.2: Next(%#x, %d) is %#x %v, not %#x %v", w, slot, got, ok, want, is)
			}
		}
	}
}

func TestNextRefuses(t *testing.T) {
	for _, w := range anyWords() {
		for _, slot := range append(noPendings, -1) {
			if got, ok := Next(w, slot); got != 0 || ok {
				t.Errorf("P3.2: Next(%#x, %d) is %#x %v: there is no such slot", w, slot, got, ok)
			}
		}
	}
	for pending := range uint64(15) {
		if got, ok := Next(80+pending+1, 2); got != 0 || ok {
			t.Errorf("P3.2: Next(%d, 2) is %d %v: there is one pending", 80+pending+1, got, ok)
		}
	}
	for _, seq := range []uint64{api.MaxSeq, api.MaxSeq + 1, 1<<60 - 2, 1<<60 - 1} {
		if got, ok := Next(seq<<4, 2); got != 0 || ok {
			t.Errorf("P3.2: Next(%#x, 2) is %d %v: no number is left", seq<<4, got, ok)
		}
	}
}

func TestSettled(t *testing.T) {
	for _, w := range anyWords() {
		if got := Settled(w); got != w-w%16 {
			t.Errorf("P3.2: Settled(%#x) is %#x", w, got)
		}
	}
}

func TestPast(t *testing.T) {
	for _, x := range []struct {
		n, snapshot uint64
		past        bool
	}{
		{0, 0, false}, {0, 1, false}, {0, 1<<64 - 1, false},
		{1, 0, false}, {1, 1, true}, {1, 2, true},
		{4, 3, false}, {5, 5, true}, {6, 5, false},
		{1<<64 - 1, 1<<64 - 1, true}, {1<<64 - 1, 1<<64 - 2, false}, {1<<64 - 2, 1<<64 - 1, true},
		{1 << 63, 1<<63 - 1, false}, {1<<63 - 1, 1 << 63, true},
	} {
		if Past(x.n, x.snapshot) != x.past {
			t.Errorf("P3.2: Past(%d, %d) is %v", x.n, x.snapshot, !x.past)
		}
	}
}

func TestSettledBehindNextHasANextAgain(t *testing.T) {
	for _, seq := range seqs {
		w, _ := Pack(Tally{Seq: seq, Pending: -1})
		for first := range api.MaxSlots {
			next, ok := Next(w, first)
			if ok != (seq < api.MaxSeq) {
				t.Errorf("P3.3: Next behind %d commits: %v", seq, ok)
			}
			if !ok {
				continue
			}
			for second := range api.MaxSlots {
				again, ok := Next(Settled(next), second)
				if ok != (seq+1 < api.MaxSeq) {
					t.Errorf("P3.3: Next behind %d commits, the last one noted: %v", seq+1, ok)
				}
				if ok && Unpack(again) != (Tally{Seq: seq + 2, Pending: second}) {
					t.Errorf("P3.3: Next of slots %d and %d behind %d commits is %v", first, second, seq, Unpack(again))
				}
			}
		}
	}
}
