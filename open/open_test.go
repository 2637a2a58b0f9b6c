package open

import (
	"slices"
	"testing"

	"umpire/api"
	"umpire/chart"
	"umpire/status"
	"umpire/store"
)

// Where a status has its Busy, its state and its generation, by chapter 1.
const (
	busyBit   = 1 << 26
	stateUnit = 1 << 27
	genUnit   = 1 << 30
	busyState = 7*stateUnit | busyBit
)

// lastGen is the greatest generation of the worlds here, if no other is said.
const lastGen = 9

// frees are words that are Free, of generations up to lastGen, and taken
// whatever else they have: no world has the last four.
var frees = []uint64{0, genUnit, lastGen * genUnit, busyBit, 3<<24 | 0xfff<<12 | 0xfff, 1<<63 | 4*genUnit | busyBit | 1, 3 << 62}

// seqs are counts of commits at which numbers end, or are as small as can be:
// no world has the last two.
var seqs = []uint64{0, 1, 5, 1<<32 - 1, api.MaxSeq - 1, api.MaxSeq, api.MaxSeq + 1, 1<<60 - 1}

func worldOf(slots int) api.Config {
	return api.Config{Threads: 2, Slots: slots, Keys: 2, LastGen: lastGen, LastSeq: 9}
}

// wordOf tells a tally's word by chapter 3, also of a slot that there is not.
func wordOf(seq uint64, pending int) uint64 { return seq<<4 | uint64(pending+1) }

// stateOf is a status of a state alone.
func stateOf(state uint64) uint64 { return state * stateUnit }

// moved is a status of another state, not Busy, by chapter 1.
func moved(word, state uint64) uint64 { return word&^busyState | state*stateUnit }

// ticketOf tells a ticket's word by chapter 4.
func ticketOf(slot int, word uint64) uint64 {
	return word<<2>>32<<4 | uint64(slot+1)
}

func tallySpot() chart.Spot { return chart.Spot{Kind: chart.Tally} }

func statusSpot(slot int) chart.Spot { return chart.Spot{Kind: chart.Status, Of: slot} }

func snapshotSpot(slot int) chart.Spot { return chart.Spot{Kind: chart.Snapshot, Of: slot} }

func numberSpot(slot int) chart.Spot { return chart.Spot{Kind: chart.Number, Of: slot} }

// words tells as many as the world has cells, no two alike, but for the tally
// and the slots' statuses.
func words(c api.Config, tally uint64, statuses ...uint64) []uint64 {
	list := make([]uint64, chart.Len(c))
	for i := range list {
		list[i] = 1000 + 7*uint64(i)
	}
	put(c, list, tallySpot(), tally)
	for slot, word := range statuses {
		put(c, list, statusSpot(slot), word)
	}
	return list
}

func put(c api.Config, list []uint64, s chart.Spot, word uint64) {
	list[chart.Cell(c, s)] = word
}

func made(t *testing.T, c api.Config, list []uint64) *store.Memory {
	t.Helper()
	m, e := store.Of(c, list)
	if e != api.OK {
		t.Fatalf("there is no memory of %+v: %d", c, e)
	}
	return m
}

// step asks for all that is told ahead of the step and behind it, as to tell
// is no access, and holds the step against what the memory tells of it.
func step(t *testing.T, o *Open, m *store.Memory, want store.Touch) {
	t.Helper()
	count := m.Count()
	if o.Done() {
		t.Errorf("P9.1: it is done ahead of %+v", want)
	}
	if o.Answer() != (api.Answer{}) {
		t.Errorf("P9.2: it tells %+v ahead of %+v", o.Answer(), want)
	}
	o.Step(m)
	o.Done()
	o.Answer()
	if m.Count() != count+1 || m.Last() != want {
		t.Errorf("P9.1: %d accesses, not 1, the last %+v, not %+v", m.Count()-count, m.Last(), want)
	}
}

// done asks that it is, and tells that always, and that Steps do nothing from
// then on.
func done(t *testing.T, o *Open, m *store.Memory, answer api.Answer, want []uint64) {
	t.Helper()
	count := m.Count()
	for range 3 {
		if !o.Done() {
			t.Error("P9.1: it is not done")
		}
		if o.Answer() != answer {
			t.Errorf("P9.2: it tells %+v, not %+v", o.Answer(), answer)
		}
		o.Step(m)
	}
	if m.Count() != count {
		t.Error("P9.1: a step of one that is done was an access")
	}
	if !slices.Equal(m.Cells(), want) {
		t.Errorf("P9.1: the words are %d, not %d", m.Cells(), want)
	}
}

// swapped is the Touch of a swap from old to v of a word that was word.
func swapped(s chart.Spot, word, old, v uint64) store.Touch {
	if word != old {
		return store.Touch{Kind: store.Swaps, Spot: s, Old: word, New: word}
	}
	return store.Touch{Kind: store.Swaps, Spot: s, Old: word, New: v, Done: true}
}

func loaded(s chart.Spot, word uint64) store.Touch {
	return store.Touch{Kind: store.Loads, Spot: s, Old: word, New: word, Done: true}
}

func stored(s chart.Spot, word, v uint64) store.Touch {
	return store.Touch{Kind: store.Stores, Spot: s, Old: word, New: v, Done: true}
}

// took is the swap by which the slot of that status becomes its own.
func took(slot int, word uint64) store.Touch {
	return swapped(statusSpot(slot), word, word, moved(word, status.Beginning))
}

// ends asks for the steps note and start, and for what is told then.
func ends(t *testing.T, o *Open, m *store.Memory, slot int, word, seq uint64) {
	t.Helper()
	c := m.Config()
	want := m.Cells()
	ahead := want[chart.Cell(c, snapshotSpot(slot))]
	step(t, o, m, stored(snapshotSpot(slot), ahead, seq))
	ahead = want[chart.Cell(c, statusSpot(slot))]
	step(t, o, m, stored(statusSpot(slot), ahead, moved(word, status.Active)))
	put(c, want, snapshotSpot(slot), seq)
	put(c, want, statusSpot(slot), moved(word, status.Active))
	done(t, o, m, api.Answer{H: ticketOf(slot, word), N: seq}, want)
}

// helps asks for the steps of a help: of a commit of a slot that is
// Committing, or is not.
func helps(t *testing.T, o *Open, m *store.Memory, w uint64) {
	t.Helper()
	slot, seq := int(w&15)-1, w>>4
	cells := m.Cells()
	at := func(s chart.Spot) uint64 { return cells[chart.Cell(m.Config(), s)] }
	step(t, o, m, swapped(numberSpot(slot), at(numberSpot(slot)), 0, seq))
	s := at(statusSpot(slot))
	step(t, o, m, loaded(statusSpot(slot), s))
	if s&stateOf(7) == stateOf(status.Committing) {
		step(t, o, m, swapped(statusSpot(slot), s, s, s+stateUnit))
	}
	step(t, o, m, swapped(tallySpot(), at(tallySpot()), w, seq<<4))
}

func TestExample(t *testing.T) {
	m := made(t, worldOf(2), words(worldOf(2), 80, 0, 0))
	o := New()
	for range 5 {
		o.Step(m)
	}
	if !o.Done() || o.Answer() != (api.Answer{E: api.OK, H: 1, N: 5}) {
		t.Errorf("P9.2: Done is %t, it tells %+v, not ticket 1 and 5", o.Done(), o.Answer())
	}
}

// TestEachStep: ahead of the slot that it gets are some of each state but
// Free; behind it one that is Free, too, and stays so.
func TestEachStep(t *testing.T) {
	for slots := 1; slots <= api.MaxSlots; slots++ {
		for slot := range slots {
			for shift := range uint64(7) {
				for _, word := range frees {
					statuses := make([]uint64, slots)
					for i := range slot {
						statuses[i] = stateOf(1+(uint64(i)+shift)%7) | uint64(i)*genUnit
					}
					statuses[slot] = word
					oneOpen(t, statuses, slot, 5)
				}
			}
		}
	}
}

func TestEachSeq(t *testing.T) {
	for _, seq := range seqs {
		oneOpen(t, []uint64{0}, 0, seq)
		oneOpen(t, []uint64{stateOf(status.Active), 2 * genUnit, 0}, 1, seq)
	}
}

// oneOpen steps alone, with nothing pending, and gets that slot.
func oneOpen(t *testing.T, statuses []uint64, slot int, seq uint64) {
	t.Helper()
	c := worldOf(len(statuses))
	m := made(t, c, words(c, wordOf(seq, -1), statuses...))
	o := New()
	for i := range slot {
		step(t, o, m, loaded(statusSpot(i), statuses[i]))
	}
	step(t, o, m, loaded(statusSpot(slot), statuses[slot]))
	step(t, o, m, took(slot, statuses[slot]))
	step(t, o, m, loaded(tallySpot(), wordOf(seq, -1)))
	ends(t, o, m, slot, statuses[slot], seq)
}

// TestGenerations: one above the last is not taken, though it is Free.
func TestGenerations(t *testing.T) {
	for _, most := range []int{0, 1, 9, api.MaxGen - 1, api.MaxGen} {
		for _, gen := range []uint64{0, 1, 9, uint64(most), uint64(most) + 1, api.MaxGen - 1, api.MaxGen, api.MaxGen + 1, 1<<31 - 1, 1 << 31, 1<<32 - 1} {
			c := worldOf(1)
			c.LastGen = most
			want := words(c, 80, gen*genUnit)
			m := made(t, c, want)
			o := New()
			step(t, o, m, loaded(statusSpot(0), gen*genUnit))
			if gen > uint64(most) {
				done(t, o, m, api.Answer{E: api.ErrFull}, want)
				continue
			}
			step(t, o, m, took(0, gen*genUnit))
			step(t, o, m, loaded(tallySpot(), 80))
			ends(t, o, m, 0, gen*genUnit, 5)
		}
	}
}

// TestFull: each slot is looked at once, and nothing else is; what is pending
// stays so.
func TestFull(t *testing.T) {
	for slots := 1; slots <= api.MaxSlots; slots++ {
		for shift := range uint64(8) {
			for _, bits := range []uint64{0, busyBit, 4 * genUnit, (1<<64 - 1) &^ (7 * stateUnit)} {
				statuses := make([]uint64, slots)
				for i := range statuses {
					statuses[i] = bits | stateOf((uint64(i)+shift)%8)
					if statuses[i]&stateOf(7) == 0 {
						statuses[i] |= 2 * (lastGen + 1) * genUnit
					}
				}
				want := words(worldOf(slots), wordOf(5, 0), statuses...)
				m := made(t, worldOf(slots), want)
				o := New()
				for i, word := range statuses {
					step(t, o, m, loaded(statusSpot(i), word))
				}
				done(t, o, m, api.Answer{E: api.ErrFull}, want)
			}
		}
	}
}

// TestLosesAndGoesOn: between look and take the status becomes another one,
// be it Free as well; then the next slot comes, and none that was lost.
func TestLosesAndGoesOn(t *testing.T) {
	for slots := 1; slots <= api.MaxSlots; slots++ {
		for _, word := range frees {
			for _, now := range []uint64{stateOf(status.Beginning), word ^ genUnit, word ^ busyBit, word ^ 1, word ^ 1<<63, 1<<64 - 1} {
				for lost := range slots + 1 {
					oneLoser(t, slots, lost, word, now)
				}
			}
		}
	}
}

// oneLoser loses so many slots, from the first one on, and gets the next one,
// if there is one.
func oneLoser(t *testing.T, slots, lost int, word, now uint64) {
	t.Helper()
	statuses := make([]uint64, slots)
	for i := range statuses {
		statuses[i] = word
	}
	m := made(t, worldOf(slots), words(worldOf(slots), 80, statuses...))
	o := New()
	for i := range lost {
		step(t, o, m, loaded(statusSpot(i), word))
		m.Store(statusSpot(i), now)
		step(t, o, m, swapped(statusSpot(i), now, word, 0))
		m.Store(statusSpot(i), word)
	}
	if lost == slots {
		done(t, o, m, api.Answer{E: api.ErrFull}, m.Cells())
		return
	}
	step(t, o, m, loaded(statusSpot(lost), word))
	step(t, o, m, took(lost, word))
	step(t, o, m, loaded(tallySpot(), 80))
	ends(t, o, m, lost, word, 5)
}

// TestHelps: what is pending is noted first, whatever its slot is like, and
// the tally is asked anew.
func TestHelps(t *testing.T) {
	for _, seq := range seqs {
		for slot := 1; slot < api.MaxSlots; slot++ {
			for state := range uint64(8) {
				for _, bits := range []uint64{0, busyBit, 2*genUnit | 5} {
					statuses := make([]uint64, api.MaxSlots)
					statuses[0] = 3 * genUnit
					statuses[slot] = bits | stateOf(state)
					c := worldOf(api.MaxSlots)
					list := words(c, wordOf(seq, slot), statuses...)
					put(c, list, numberSpot(slot), 7*(state%2))
					m := made(t, c, list)
					o := New()
					step(t, o, m, loaded(statusSpot(0), 3*genUnit))
					step(t, o, m, took(0, 3*genUnit))
					step(t, o, m, loaded(tallySpot(), wordOf(seq, slot)))
					helps(t, o, m, wordOf(seq, slot))
					step(t, o, m, loaded(tallySpot(), wordOf(seq, -1)))
					ends(t, o, m, 0, 3*genUnit, seq)
				}
			}
		}
	}
}

// TestHelpsAgainAndAgain: each time that the tally is asked, there is one more
// commit; the last one is settled by another one meanwhile.
func TestHelpsAgainAndAgain(t *testing.T) {
	c := worldOf(3)
	for times := 1; times <= 6; times++ {
		m := made(t, c, words(c, wordOf(1, 1), genUnit, stateOf(status.Committing), stateOf(status.Committing)))
		o := New()
		step(t, o, m, loaded(statusSpot(0), genUnit))
		step(t, o, m, took(0, genUnit))
		for i := range times {
			w := wordOf(uint64(i)+1, 1+i%2)
			m.Store(tallySpot(), w)
			m.Store(numberSpot(1+i%2), 0)
			m.Store(statusSpot(1+i%2), stateOf(status.Committing)|uint64(i))
			step(t, o, m, loaded(tallySpot(), w))
			if i == times-1 {
				m.Store(tallySpot(), wordOf(20, -1))
			}
			helps(t, o, m, w)
		}
		step(t, o, m, loaded(tallySpot(), wordOf(20, -1)))
		ends(t, o, m, 0, genUnit, 20)
	}
}

// TestHelpLoses: a help whose lay is lost looks anew, and all of that are
// steps of the one that begins.
func TestHelpLoses(t *testing.T) {
	c := worldOf(2)
	begun := stateOf(status.Committing)
	list := words(c, 82, 0, begun)
	put(c, list, numberSpot(1), 0)
	m := made(t, c, list)
	o := New()
	step(t, o, m, loaded(statusSpot(0), 0))
	step(t, o, m, took(0, 0))
	step(t, o, m, loaded(tallySpot(), 82))
	step(t, o, m, swapped(numberSpot(1), 0, 0, 5))
	for i := range uint64(4) {
		step(t, o, m, loaded(statusSpot(1), begun|i))
		m.Store(statusSpot(1), begun|(i+1))
		step(t, o, m, swapped(statusSpot(1), begun|(i+1), begun|i, 0))
	}
	step(t, o, m, loaded(statusSpot(1), begun|4))
	step(t, o, m, swapped(statusSpot(1), begun|4, begun|4, (begun|4)+stateUnit))
	step(t, o, m, swapped(tallySpot(), 82, 82, 80))
	step(t, o, m, loaded(tallySpot(), 80))
	ends(t, o, m, 0, 0, 5)
}

// TestPendingSlotsThatThereAreNot: no world has such words, but it ends over
// them.
func TestPendingSlotsThatThereAreNot(t *testing.T) {
	for slots := 1; slots <= api.MaxSlots; slots++ {
		for slot := slots; slot <= 14; slot++ {
			w := wordOf(6, slot)
			m := made(t, worldOf(slots), words(worldOf(slots), w, 0))
			o := New()
			step(t, o, m, loaded(statusSpot(0), 0))
			step(t, o, m, took(0, 0))
			step(t, o, m, loaded(tallySpot(), w))
			step(t, o, m, store.Touch{Kind: store.Swaps, Spot: numberSpot(slot)})
			step(t, o, m, store.Touch{Kind: store.Loads, Spot: statusSpot(slot)})
			step(t, o, m, swapped(tallySpot(), w, w, 96))
			step(t, o, m, loaded(tallySpot(), 96))
			ends(t, o, m, 0, 0, 6)
		}
	}
}

// TestPendingOnItself: nor have they a pending commit of the slot that is
// just begun.
func TestPendingOnItself(t *testing.T) {
	c := worldOf(1)
	list := words(c, wordOf(6, 0), genUnit)
	put(c, list, numberSpot(0), 0)
	m := made(t, c, list)
	o := New()
	step(t, o, m, loaded(statusSpot(0), genUnit))
	step(t, o, m, took(0, genUnit))
	step(t, o, m, loaded(tallySpot(), wordOf(6, 0)))
	helps(t, o, m, wordOf(6, 0))
	step(t, o, m, loaded(tallySpot(), 96))
	ends(t, o, m, 0, genUnit, 6)
}

// TestKeepsWhatItSaw: behind the tally's load its Seq is the snapshot, and
// behind the look the status is what was seen, whatever stands there then.
func TestKeepsWhatItSaw(t *testing.T) {
	for _, now := range []uint64{0, wordOf(6, -1), wordOf(6, 1), 1<<64 - 1} {
		for _, other := range []uint64{0, stateOf(status.Aborted) | 7, stateOf(status.Beginning) | 1<<12 | busyBit, 1<<64 - 1} {
			m := made(t, worldOf(2), words(worldOf(2), 80, 4*genUnit|2, 0))
			o := New()
			step(t, o, m, loaded(statusSpot(0), 4*genUnit|2))
			step(t, o, m, took(0, 4*genUnit|2))
			step(t, o, m, loaded(tallySpot(), 80))
			m.Store(tallySpot(), now)
			m.Store(statusSpot(0), other)
			ends(t, o, m, 0, 4*genUnit|2, 5)
		}
	}
}

// TestAloneGetsTheLowest: of all ways in which four slots are free, full or
// out of generations, with each of them pending, or none.
func TestAloneGetsTheLowest(t *testing.T) {
	kinds := []uint64{0, stateOf(status.Beginning), stateOf(status.Active) | busyBit, stateOf(status.Committing), stateOf(status.Committed), stateOf(status.Aborted), stateOf(status.Dead), stateOf(status.Clear), (lastGen + 1) * genUnit}
	for n := range 9 * 9 * 9 * 9 {
		statuses := []uint64{kinds[n%9], kinds[n/9%9], kinds[n/81%9], kinds[n/729]}
		for pending := -1; pending < 4; pending++ {
			m := made(t, worldOf(4), words(worldOf(4), wordOf(5, pending), statuses...))
			o := New()
			for i := 0; i < 20 && !o.Done(); i++ {
				o.Step(m)
			}
			slot := slices.Index(statuses, 0)
			want := api.Answer{E: api.ErrFull}
			if slot >= 0 {
				want = api.Answer{H: uint64(slot + 1), N: 5}
			}
			if !o.Done() || o.Answer() != want {
				t.Fatalf("P9.3: of %d it tells %+v, not %+v", statuses, o.Answer(), want)
			}
			if slot >= 0 && (m.Load(tallySpot()) != 80 || m.Load(snapshotSpot(slot)) != 5) {
				t.Fatalf("P9.3: of %d, pending %d: the tally is %d, the snapshot %d", statuses, pending, m.Load(tallySpot()), m.Load(snapshotSpot(slot)))
			}
		}
	}
}

// TestMachinesOfTheirOwn: what one keeps, the slots that it has gone through
// and its answer, is not another one's; nor is what it tells.
func TestMachinesOfTheirOwn(t *testing.T) {
	first, second := New(), New()
	one := made(t, worldOf(2), words(worldOf(2), 80, stateOf(status.Active), 0))
	two := made(t, worldOf(3), words(worldOf(3), 96, 2*genUnit, 0, 0))
	for range 6 {
		first.Step(one)
		second.Step(two)
	}
	answer := first.Answer()
	answer.H, answer.N = 9, 9
	done(t, first, one, api.Answer{H: 2, N: 5}, one.Cells())
	done(t, second, two, api.Answer{H: 33, N: 6}, two.Cells())
}

// TestManyAtOnce: in whatever order two take their steps, no slot is told
// twice, what was told stands, and one that is told ErrFull has lost to
// others. A pending commit is noted once.
func TestManyAtOnce(t *testing.T) {
	for _, x := range []struct {
		tally    uint64
		statuses []uint64
		free     int
	}{
		{80, []uint64{0}, 1},
		{80, []uint64{genUnit, 2 * genUnit}, 2},
		{80, []uint64{0, stateOf(status.Active), 0}, 2},
		{wordOf(5, 1), []uint64{0, stateOf(status.Committing)}, 1},
		{wordOf(5, 1), []uint64{0, stateOf(status.Committed), 0}, 2}, // as if it stalled ahead of settle
	} {
		c := worldOf(len(x.statuses))
		list := words(c, x.tally, x.statuses...)
		if x.tally != 80 {
			put(c, list, numberSpot(1), 0)
		}
		p := play{t: t, c: c, list: list, free: x.free, many: 2, helped: x.tally != 80}
		p.each(nil)
		if p.ends < 2 {
			t.Errorf("P9.1: %d orders of %d", p.ends, x.statuses)
		}
	}
}

// TestManyStall: any of three may stall anywhere: the next one gets a slot all
// the same, if one is left.
func TestManyStall(t *testing.T) {
	const most = 14
	for n := range most * most * most {
		m := made(t, worldOf(3), words(worldOf(3), wordOf(5, 2), 0, genUnit, stateOf(status.Committing)))
		for _, steps := range []int{n % most, n / most % most, n / most / most} {
			o := New()
			for range steps {
				o.Step(m)
			}
		}
		left := m.Load(statusSpot(0)) == 0 || m.Load(statusSpot(1)) == genUnit
		o := New()
		for i := 0; i < 20 && !o.Done(); i++ {
			o.Step(m)
		}
		if !o.Done() || left != (o.Answer().E == api.OK) {
			t.Fatalf("P9.1: behind stalls of %d: a slot is left: %t, it tells %+v", n, left, o.Answer())
		}
	}
}

// play is machines over one world, stepped in each order that there is.
type play struct {
	t          *testing.T
	c          api.Config
	list       []uint64
	free, many int
	helped     bool
	ends       int
}

// each plays the order anew from the start, as machines can't be copied, and
// goes on with each one that is not done.
func (p *play) each(order []int) {
	m := made(p.t, p.c, p.list)
	opens := make([]*Open, p.many)
	for i := range opens {
		opens[i] = New()
	}
	for _, i := range order {
		opens[i].Step(m)
	}
	if len(order) > 40 {
		p.t.Fatalf("P9.1: %d never ends", order)
	}
	over := true
	for i, o := range opens {
		if !o.Done() {
			over = false
			p.each(append(slices.Clone(order), i))
		}
	}
	if over {
		p.end(order, opens, m)
	}
}

func (p *play) end(order []int, opens []*Open, m *store.Memory) {
	p.ends++
	var got []int
	for _, o := range opens {
		a := o.Answer()
		if a.E != api.OK {
			if a != (api.Answer{E: api.ErrFull}) {
				p.t.Fatalf("P9.2: %d: %+v", order, a)
			}
			continue
		}
		slot := int(a.H&15) - 1
		got = append(got, slot)
		ahead := p.list[chart.Cell(p.c, statusSpot(slot))]
		if a.N != 5 || a.H != ticketOf(slot, ahead) || m.Load(statusSpot(slot)) != moved(ahead, status.Active) || m.Load(snapshotSpot(slot)) != 5 {
			p.t.Fatalf("P9.1: %d: %+v over %d", order, a, m.Cells())
		}
	}
	slices.Sort(got)
	if many := len(got); many != min(p.free, p.many) || many != len(slices.Compact(got)) {
		p.t.Fatalf("P9.1: %d: the slots are %d", order, got)
	}
	if m.Load(tallySpot()) != 80 || p.helped && (m.Load(numberSpot(1)) != 5 || m.Load(statusSpot(1)) != stateOf(status.Committed)) {
		p.t.Fatalf("P9.3: %d: the words are %d", order, m.Cells())
	}
}
