package help

import (
	"slices"
	"testing"

	"umpire/api"
	"umpire/chart"
	"umpire/status"
	"umpire/store"
	"umpire/tally"
)

// Where a status has its state and its Busy, by chapter 1.
const (
	busyBit   = 1 << 26
	stateUnit = 1 << 27
	stateMask = 7 * stateUnit
)

// seqs are counts of commits at which numbers end, or are as small as can be:
// no world has the last two.
var seqs = []uint64{0, 1, 5, 1<<32 - 1, api.MaxSeq - 1, api.MaxSeq, api.MaxSeq + 1, 1<<60 - 1}

// others are the bits of a status beside its state.
var others = []uint64{0, 1, busyBit, 3<<24 | 0xfff<<12 | 0xfff, 7<<30 | busyBit | 2<<12, 1<<62 - 1<<30, (1<<64 - 1) &^ stateMask}

// goal is what a machine is set upon: a word of the tally, which stands there
// or does not, and what its slot is like.
type goal struct{ word, tally, number, status uint64 }

func worldOf(slots int) api.Config {
	return api.Config{Threads: 2, Slots: slots, Keys: 2, LastGen: 9, LastSeq: 9}
}

// wordOf tells a tally's word by chapter 3, also of a slot that there is not.
func wordOf(seq uint64, pending int) uint64 { return seq<<4 | uint64(pending+1) }

func tallySpot() chart.Spot { return chart.Spot{Kind: chart.Tally} }

func statusSpot(slot int) chart.Spot { return chart.Spot{Kind: chart.Status, Of: slot} }

func numberSpot(slot int) chart.Spot { return chart.Spot{Kind: chart.Number, Of: slot} }

// words tells as many as the world has cells, no two alike, but for those of
// the goal and its slot.
func words(c api.Config, slot int, g goal) []uint64 {
	list := make([]uint64, chart.Len(c))
	for i := range list {
		list[i] = 1000 + 7*uint64(i)
	}
	put(c, list, tallySpot(), g.tally)
	put(c, list, numberSpot(slot), g.number)
	put(c, list, statusSpot(slot), g.status)
	return list
}

// put does nothing where the world has no such spot.
func put(c api.Config, list []uint64, s chart.Spot, word uint64) {
	if cell := chart.Cell(c, s); cell >= 0 {
		list[cell] = word
	}
}

func made(t *testing.T, c api.Config, list []uint64) *store.Memory {
	t.Helper()
	m, e := store.Of(c, list)
	if e != api.OK {
		t.Fatalf("there is no memory of %+v: %d", c, e)
	}
	return m
}

// step asks whether it is done ahead of the step and behind it, as to tell is
// no access, and holds the step against what the memory tells of it.
func step(t *testing.T, h *Help, m *store.Memory, want store.Touch) {
	t.Helper()
	count := m.Count()
	if h.Done() {
		t.Errorf("P8.1: it is done ahead of %+v", want)
	}
	h.Step(m)
	if h.Done(); m.Count() != count+1 || m.Last() != want {
		t.Errorf("P8.1: %d accesses, not 1, the last %+v, not %+v", m.Count()-count, m.Last(), want)
	}
}

// done asks that it is, and that Steps do nothing from then on.
func done(t *testing.T, h *Help, m *store.Memory, want []uint64) {
	t.Helper()
	count := m.Count()
	for range 3 {
		if !h.Done() {
			t.Error("P8.1: it is not done")
		}
		h.Step(m)
	}
	if m.Count() != count {
		t.Error("P8.1: a step of one that is done was an access")
	}
	if !slices.Equal(m.Cells(), want) {
		t.Errorf("P8.2: the words are %d, not %d", m.Cells(), want)
	}
}

// swapped is the Touch of a swap from old to v of a word that was word.
func swapped(s chart.Spot, word, old, v uint64) store.Touch {
	if word != old {
		return store.Touch{Kind: store.Swaps, Spot: s, Old: word, New: word}
	}
	return store.Touch{Kind: store.Swaps, Spot: s, Old: word, New: v, Done: true}
}

func loaded(s chart.Spot, word uint64) store.Touch {
	return store.Touch{Kind: store.Loads, Spot: s, Old: word, New: word, Done: true}
}

func isCommitting(word uint64) bool { return word&stateMask == status.Committing*stateUnit }

// committed is a committing one's status behind its commit: 1 more in its
// state, and all else as it was.
func committed(word uint64) uint64 { return word + stateUnit }

func TestExample(t *testing.T) {
	m, e := store.New(worldOf(2))
	if e != api.OK {
		t.Fatal(e)
	}
	m.Store(tallySpot(), 82)
	m.Store(statusSpot(1), status.Move(0, status.Committing, false))
	h := New(82)
	for range 4 {
		h.Step(m)
	}
	now := tally.Unpack(m.Load(tallySpot()))
	if !h.Done() || now.Seq != 5 || now.Pending != -1 {
		t.Errorf("P8.1: the tally is %+v, not 5, -1", now)
	}
	if n, s := m.Load(numberSpot(1)), status.Unpack(m.Load(statusSpot(1))); n != 5 || s.State != status.Committed || s.Busy {
		t.Errorf("P8.1: the number is %d, not 5, the status %+v", n, s)
	}
}

func TestEachStep(t *testing.T) {
	for slots := 1; slots <= api.MaxSlots; slots++ {
		for slot := range slots {
			for _, seq := range seqs {
				w := wordOf(seq, slot)
				for _, bits := range others {
					for state := range uint64(8) {
						s := bits | state*stateUnit
						oneHelp(t, slots, slot, goal{word: w, tally: w, status: s})
						oneHelp(t, slots, slot, goal{word: w, tally: w, number: seq + 3, status: s})
					}
				}
			}
		}
	}
}

// TestOverOtherTallies: what was settled, or was gone on from, stays.
func TestOverOtherTallies(t *testing.T) {
	for slot := range api.MaxSlots {
		w := wordOf(5, slot)
		for _, now := range []uint64{0, wordOf(5, -1), wordOf(6, slot), wordOf(6, -1), wordOf(5, (slot+1)%api.MaxSlots), w | 1<<63, 1<<64 - 1} {
			for state := range uint64(8) {
				oneHelp(t, api.MaxSlots, slot, goal{word: w, tally: now, status: state * stateUnit})
				oneHelp(t, api.MaxSlots, slot, goal{word: w, tally: now, number: 5, status: state*stateUnit | busyBit})
			}
		}
	}
}

// oneHelp steps alone, and holds each access against the chapter's list.
func oneHelp(t *testing.T, slots, slot int, g goal) {
	t.Helper()
	c := worldOf(slots)
	want := words(c, slot, g)
	m := made(t, c, want)
	h := New(g.word)
	seq, behind := g.word>>4, g.word>>4<<4
	step(t, h, m, swapped(numberSpot(slot), g.number, 0, seq))
	if g.number == 0 {
		put(c, want, numberSpot(slot), seq)
	}
	step(t, h, m, loaded(statusSpot(slot), g.status))
	if isCommitting(g.status) {
		step(t, h, m, swapped(statusSpot(slot), g.status, g.status, committed(g.status)))
		put(c, want, statusSpot(slot), committed(g.status))
	}
	step(t, h, m, swapped(tallySpot(), g.tally, g.word, behind))
	if g.tally == g.word {
		put(c, want, tallySpot(), behind)
	}
	done(t, h, m, want)
}

func TestNothingPending(t *testing.T) {
	for _, seq := range seqs {
		w := wordOf(seq, -1)
		want := words(worldOf(3), 0, goal{tally: w, status: status.Committing * stateUnit})
		m := made(t, worldOf(3), want)
		done(t, New(w), m, want)
	}
}

// TestSlotsThatThereAreNot: their words stand nowhere, but each access of them
// is a step, and the tally is settled.
func TestSlotsThatThereAreNot(t *testing.T) {
	for slots := 1; slots <= api.MaxSlots; slots++ {
		for slot := slots; slot <= 14; slot++ {
			w := wordOf(1<<60-1, slot)
			c := worldOf(slots)
			want := words(c, slot, goal{tally: w})
			m := made(t, c, want)
			h := New(w)
			step(t, h, m, store.Touch{Kind: store.Swaps, Spot: numberSpot(slot)})
			step(t, h, m, store.Touch{Kind: store.Loads, Spot: statusSpot(slot)})
			step(t, h, m, swapped(tallySpot(), w, w, w>>4<<4))
			put(c, want, tallySpot(), w>>4<<4)
			done(t, h, m, want)
		}
	}
}

// TestLosesAndLooksAnew: between look and lay the status becomes another one,
// again and again, and what was changed there stays.
func TestLosesAndLooksAnew(t *testing.T) {
	const slot = 1
	begun := uint64(5<<30 | status.Committing*stateUnit)
	for _, end := range []uint64{begun, begun | busyBit, begun&^stateMask | status.Committed*stateUnit, begun&^stateMask | status.Aborted*stateUnit | busyBit, 0} {
		c := worldOf(3)
		want := words(c, slot, goal{tally: 82, status: begun})
		m := made(t, c, want)
		h := New(82)
		step(t, h, m, swapped(numberSpot(slot), 0, 0, 5))
		now := begun
		for _, next := range []uint64{begun | 1, begun | 1 | busyBit, begun | 1<<12, begun | 2, end} {
			step(t, h, m, loaded(statusSpot(slot), now))
			m.Store(statusSpot(slot), next)
			step(t, h, m, swapped(statusSpot(slot), next, now, 0))
			now = next
		}
		step(t, h, m, loaded(statusSpot(slot), now))
		if isCommitting(now) {
			step(t, h, m, swapped(statusSpot(slot), now, now, committed(now)))
			now = committed(now)
		}
		step(t, h, m, swapped(tallySpot(), 82, 82, 80))
		put(c, want, tallySpot(), 80)
		put(c, want, numberSpot(slot), 5)
		put(c, want, statusSpot(slot), now)
		done(t, h, m, want)
	}
}

// TestLooksOnceBehindLay: what happens to the status behind the lay, or the
// look, is no more asked for.
func TestLooksOnceBehindLay(t *testing.T) {
	for _, s := range []uint64{status.Committing * stateUnit, status.Active * stateUnit} {
		m := made(t, worldOf(2), words(worldOf(2), 0, goal{tally: 81, status: s}))
		h := New(81)
		h.Step(m)
		h.Step(m)
		if isCommitting(s) {
			h.Step(m)
		}
		m.Store(statusSpot(0), status.Committing*stateUnit|busyBit)
		want := m.Cells()
		step(t, h, m, swapped(tallySpot(), 81, 81, 80))
		put(worldOf(2), want, tallySpot(), 80)
		done(t, h, m, want)
	}
}

// TestMachinesOfTheirOwn: what one keeps is not another one's.
func TestMachinesOfTheirOwn(t *testing.T) {
	c := worldOf(3)
	first, second := New(wordOf(5, 0)), New(wordOf(6, 2))
	s := uint64(status.Committing * stateUnit)
	want := words(c, 0, goal{tally: wordOf(6, 2), status: s})
	put(c, want, numberSpot(2), 0)
	put(c, want, statusSpot(2), s|busyBit)
	m := made(t, c, want)
	for range 4 {
		first.Step(m)
		second.Step(m)
	}
	put(c, want, tallySpot(), wordOf(6, -1))
	put(c, want, numberSpot(0), 5)
	put(c, want, statusSpot(0), committed(s))
	put(c, want, numberSpot(2), 6)
	put(c, want, statusSpot(2), committed(s|busyBit))
	done(t, first, m, want)
	done(t, second, m, want)
}

// TestManyAtOnce: in whatever order up to three take their steps, it is as if
// one had done it; and so it is if some of them stall somewhere.
func TestManyAtOnce(t *testing.T) {
	for _, g := range []goal{
		{word: 82, tally: 82, status: status.Committing*stateUnit | 5},
		{word: 82, tally: 82, status: status.Committing*stateUnit | busyBit},
		{word: 82, tally: 82, number: 5, status: status.Committed * stateUnit},
		{word: 82, tally: 82, number: 4, status: status.Committing * stateUnit},
		{word: 82, tally: 98, status: status.Aborted * stateUnit},
	} {
		list := words(worldOf(2), 1, g)
		alone := made(t, worldOf(2), list)
		for h := New(g.word); !h.Done(); {
			h.Step(alone)
		}
		for many := 1; many <= 3; many++ {
			p := play{t: t, want: alone.Cells()}
			for range many {
				p.helps = append(p.helps, *New(g.word))
			}
			p.goOn(list)
			if p.ends == 0 {
				t.Errorf("P8.2: %d at once never got behind it", many)
			}
		}
	}
}

// play is several machines over one world, and the words when all is done.
type play struct {
	t     *testing.T
	want  []uint64
	helps []Help
	ends  int
}

// goOn has each of them take the next step, one try for each. As soon as one
// is done, whatever the others have still to do, all is as it will be.
func (p *play) goOn(list []uint64) {
	for i, h := range p.helps {
		if h.Done() {
			p.ends++
			if !slices.Equal(list, p.want) {
				p.t.Fatalf("P8.2: one of %d is done over %d, not %d", len(p.helps), list, p.want)
			}
			continue
		}
		m := made(p.t, worldOf(2), list)
		p.helps[i].Step(m)
		p.goOn(m.Cells())
		p.helps[i] = h
	}
}

// TestConflictsAreNotLost: one that lays a conflict by a swap, whenever it
// looks and swaps, finds it there in the end, if its swap told true.
func TestConflictsAreNotLost(t *testing.T) {
	for look := range 6 {
		for swap := look; swap < 6; swap++ {
			m := made(t, worldOf(2), words(worldOf(2), 1, goal{tally: 82, status: status.Committing * stateUnit}))
			h := New(82)
			var seen uint64
			laid := false
			for i := range 8 {
				if i == look {
					seen = m.Load(statusSpot(1))
				}
				if i == swap {
					laid = m.Swap(statusSpot(1), seen, seen|1<<12)
				}
				h.Step(m)
			}
			want := uint64(status.Committed * stateUnit)
			if laid {
				want |= 1 << 12
			}
			if got := m.Load(statusSpot(1)); !h.Done() || got != want {
				t.Errorf("P8.2: looked ahead of step %d, swapped ahead of %d: the status is %d, not %d", look, swap, got, want)
			}
		}
	}
}
