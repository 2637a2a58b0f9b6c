package gate

import (
	"math"
	"slices"
	"testing"

	"umpire/api"
	"umpire/chart"
	"umpire/status"
	"umpire/store"
)

// Where a status has its Busy, its state and its generation, by chapter 1.
const (
	busyBit   = 1 << 26
	stateUnit = 1 << 27
	stateMask = 7 * stateUnit
	genUnit   = 1 << 30
	genMask   = (1<<32 - 1) * genUnit
)

// rests are the bits of a status beside its generation, state and Busy: no
// world has the last two.
var rests = []uint64{0, 1, 0xfff<<12 | 3<<24, 1 << 62, (1<<64 - 1) &^ (genMask | stateMask | busyBit)}

// gens are generations that a ticket may have.
var gens = []uint64{0, 1, 5, api.MaxGen - 1, api.MaxGen}

// oddStates are numbers that are no state's, though the lowest bits of some
// are.
var oddStates = []int{math.MinInt, -8, -2, Stay, 8, 8 + status.Active, 1 << 32, 1<<32 + status.Active, math.MaxInt}

// asked is how one enters: by a ticket, for states, where the status is word.
type asked struct {
	h      uint64
	states []int
	word   uint64
}

func worldOf(slots int) api.Config {
	return api.Config{Threads: 2, Slots: slots, Keys: 2, LastGen: 9, LastSeq: 9}
}

// ticketOf tells a ticket's word by chapter 4, also of a slot that there is
// not.
func ticketOf(slot int, gen uint64) uint64 { return gen<<4 | uint64(slot+1) }

// stateOf is a status of a state alone.
func stateOf(state int) uint64 { return uint64(state) * stateUnit }

func stateIn(word uint64) int { return int(word & stateMask / stateUnit) }

func genIn(word uint64) uint64 { return word & genMask / genUnit }

func statusSpot(slot int) chart.Spot { return chart.Spot{Kind: chart.Status, Of: slot} }

// subset tells the states whose bits are 1, each twice, and the greatest
// first, as their order says nothing.
func subset(bits int) []int {
	var states []int
	for state := status.Clear; state >= status.Free; state-- {
		if bits>>state&1 == 1 {
			states = append(states, state, state)
		}
	}
	return states
}

// words tells as many as the world has cells, no two alike, but for the slot's
// status.
func words(c api.Config, slot int, word uint64) []uint64 {
	list := make([]uint64, chart.Len(c))
	for i := range list {
		list[i] = 1000 + 7*uint64(i)
	}
	put(c, list, slot, word)
	return list
}

// put does nothing where the world has no such slot.
func put(c api.Config, list []uint64, slot int, word uint64) {
	if cell := chart.Cell(c, statusSpot(slot)); cell >= 0 {
		list[cell] = word
	}
}

func made(t *testing.T, c api.Config, list []uint64) *store.Memory {
	t.Helper()
	m, e := store.Of(c, list)
	if e != api.OK {
		t.Fatalf("there is no memory of %+v: %d", c, e)
	}
	return m
}

// swapped is the Touch of a swap from old to v of a word that was word.
func swapped(slot int, word, old, v uint64) store.Touch {
	if word != old {
		return store.Touch{Kind: store.Swaps, Spot: statusSpot(slot), Old: word, New: word}
	}
	return store.Touch{Kind: store.Swaps, Spot: statusSpot(slot), Old: word, New: v, Done: true}
}

func loaded(slot int, word uint64) store.Touch {
	return store.Touch{Kind: store.Loads, Spot: statusSpot(slot), Old: word, New: word, Done: true}
}

// touched holds a step against what the memory tells of it.
func touched(t *testing.T, promise string, m *store.Memory, count int, want store.Touch) {
	t.Helper()
	if m.Count() != count || m.Last() != want {
		t.Errorf("%s: %d accesses, not %d, the last %+v, not %+v", promise, m.Count(), count, m.Last(), want)
	}
}

// step asks for all that is told ahead of the step and behind it, as to tell
// is no access.
func step(t *testing.T, e *Enter, m *store.Memory, want store.Touch) {
	t.Helper()
	count := m.Count()
	if e.Done(m) || e.Error(m) != api.OK || e.Word() != 0 {
		t.Errorf("P10.1: ahead of %+v: Done is %t, Error %d, Word %d", want, e.Done(m), e.Error(m), e.Word())
	}
	e.Step(m)
	e.Done(m)
	e.Error(m)
	touched(t, "P10.1", m, count+1, want)
}

// done asks that it is, and tells that always, and that Steps do nothing from
// then on.
func done(t *testing.T, e *Enter, m *store.Memory, fault api.Errno, word uint64, want []uint64) {
	t.Helper()
	count := m.Count()
	for range 3 {
		if !e.Done(m) || e.Error(m) != fault || e.Word() != word {
			t.Errorf("P10.1: Done is %t, Error %d, not %d, Word %d, not %d", e.Done(m), e.Error(m), fault, e.Word(), word)
		}
		e.Step(m)
	}
	if m.Count() != count {
		t.Error("P10.1: a step of one that is done was an access")
	}
	if !slices.Equal(m.Cells(), want) {
		t.Errorf("P10.1: the words are %d, not %d", m.Cells(), want)
	}
}

// against tells by the chapter's words what a look says.
func against(x asked) api.Errno {
	if genIn(x.word) != x.h>>4 || stateIn(x.word) == status.Free || stateIn(x.word) == status.Beginning {
		return api.ErrStale
	}
	if x.word&busyBit != 0 {
		return api.ErrBusy
	}
	for _, state := range x.states {
		if state == stateIn(x.word) {
			return api.OK
		}
	}
	return api.ErrState
}

// looks asks for the step look over a word that has just been laid there, and
// for the end, if something speaks against it.
func looks(t *testing.T, e *Enter, m *store.Memory, x asked) api.Errno {
	t.Helper()
	slot := int(x.h&15) - 1
	step(t, e, m, loaded(slot, x.word))
	fault := against(x)
	if fault != api.OK {
		done(t, e, m, fault, 0, m.Cells())
	}
	return fault
}

// takes asks for a step take that tells true, and for the end.
func takes(t *testing.T, e *Enter, m *store.Memory, x asked) {
	t.Helper()
	slot, want := int(x.h&15)-1, m.Cells()
	step(t, e, m, swapped(slot, x.word, x.word, x.word|busyBit))
	put(m.Config(), want, slot, x.word|busyBit)
	done(t, e, m, api.OK, x.word|busyBit, want)
}

// oneEnter steps alone from its beginning to beyond its end.
func oneEnter(t *testing.T, c api.Config, x asked) {
	t.Helper()
	slot := int(x.h&15) - 1
	list := words(c, slot, x.word)
	m, e := made(t, c, list), New(x.h, x.states...)
	if e.Slot() != slot {
		t.Errorf("P10.1: the Slot of %d is %d, not %d", x.h, e.Slot(), slot)
	}
	if looks(t, e, m, x) == api.OK {
		takes(t, e, m, x)
	} else if !slices.Equal(m.Cells(), list) {
		t.Errorf("P10.1: with an error the words are %d, not %d", m.Cells(), list)
	}
	if e.Slot() != slot {
		t.Errorf("P10.1: behind the end the Slot of %d is %d, not %d", x.h, e.Slot(), slot)
	}
}

func TestExample(t *testing.T) {
	m := made(t, worldOf(2), words(worldOf(2), 0, stateOf(status.Active)))
	e := New(1, status.Active)
	e.Step(m)
	e.Step(m)
	if !e.Done(m) || e.Error(m) != api.OK || m.Load(statusSpot(0)) != stateOf(status.Active)|busyBit {
		t.Errorf("P10.1: Done is %t, Error %d, the status %d", e.Done(m), e.Error(m), m.Load(statusSpot(0)))
	}
	again := New(1, status.Active)
	again.Step(m)
	if !again.Done(m) || again.Error(m) != api.ErrBusy {
		t.Errorf("P10.1: once more: Done is %t, Error %d, not ErrBusy", again.Done(m), again.Error(m))
	}
}

func TestEachSlot(t *testing.T) {
	for slots := 1; slots <= api.MaxSlots; slots++ {
		for slot := range slots {
			for state := range 8 {
				for _, busy := range []uint64{0, busyBit} {
					oneEnter(t, worldOf(slots), asked{ticketOf(slot, 5), []int{state}, 5*genUnit | stateOf(state) | busy})
				}
			}
		}
	}
}

// TestEachStatus: of every state, Busy or not, of a generation that is the
// ticket's or next to it, for all sets of states.
func TestEachStatus(t *testing.T) {
	for bits := range 256 {
		states := subset(bits)
		for n := range 16 * len(rests) {
			word := stateOf(n%8) | uint64(n/8%2)*busyBit | rests[n/16]
			for _, gen := range gens {
				oneEnter(t, worldOf(2), asked{ticketOf(1, gen), states, word | gen*genUnit})
			}
			oneEnter(t, worldOf(2), asked{ticketOf(1, 5), states, word | 4*genUnit})
			oneEnter(t, worldOf(2), asked{ticketOf(1, 5), states, word | 6*genUnit})
		}
	}
}

// TestGenerations: those of a status may be above any that a ticket has, and
// be the ticket's in their lower bits alone.
func TestGenerations(t *testing.T) {
	for _, gen := range gens {
		for _, now := range append(gens, api.MaxGen+1, gen|1<<30, gen|1<<31, gen^1, gen^1<<29, 1<<32-1) {
			for _, busy := range []uint64{0, busyBit} {
				oneEnter(t, worldOf(3), asked{ticketOf(2, gen), []int{status.Dead}, stateOf(status.Dead) | now*genUnit | busy})
			}
		}
	}
}

// TestOddStates: what is no state is told as well, and nobody is in it.
func TestOddStates(t *testing.T) {
	for state := range 8 {
		oneEnter(t, worldOf(2), asked{ticketOf(0, 0), oddStates, stateOf(state)})
		oneEnter(t, worldOf(2), asked{ticketOf(0, 0), append(slices.Clone(oddStates), state), stateOf(state)})
		oneEnter(t, worldOf(2), asked{ticketOf(0, 0), nil, stateOf(state)})
	}
}

// TestNoSuchSlot: of what no world has, or this one has not, it is done ahead
// of any step, whatever its states are.
func TestNoSuchSlot(t *testing.T) {
	type stranger struct {
		h    uint64
		slot int
	}
	list := []stranger{{0, 0}, {16, 0}, {13, 0}, {14, 0}, {15, 0}, {5<<4 | 13, 0}, {1<<64 - 1, 0}, {1<<64 - 16, 0}, {1<<64 - 4, 11}}
	for slots := 1; slots <= api.MaxSlots; slots++ {
		for slot := range api.MaxSlots {
			list = append(list, stranger{ticketOf(slot, api.MaxGen+1), slot}, stranger{ticketOf(slot, 1<<32), slot}, stranger{ticketOf(slot, 1<<60-1), slot})
			if slot >= slots {
				list = append(list, stranger{ticketOf(slot, 0), slot}, stranger{ticketOf(slot, api.MaxGen), slot})
			}
		}
		for _, x := range list {
			for _, word := range []uint64{0, stateOf(status.Active), stateOf(status.Active) | busyBit, (api.MaxGen+1)*genUnit | stateOf(status.Active)} {
				want := words(worldOf(slots), 0, word)
				m, e := made(t, worldOf(slots), want), New(x.h, status.Active)
				if e.Slot() != x.slot {
					t.Errorf("P10.1: the Slot of %d is %d, not %d", x.h, e.Slot(), x.slot)
				}
				done(t, e, m, api.ErrStale, 0, want)
				if m.Count() != 0 {
					t.Errorf("P10.1: %d accesses of %d in a world of %d", m.Count(), x.h, slots)
				}
			}
		}
		list = list[:9]
	}
}

// TestOfTheMemorysWorld: one and the same is done in one world, and goes on in
// another one.
func TestOfTheMemorysWorld(t *testing.T) {
	x := asked{ticketOf(2, 5), []int{status.Aborted}, 5*genUnit | stateOf(status.Aborted)}
	small, great := made(t, worldOf(2), words(worldOf(2), 0, 7)), made(t, worldOf(3), words(worldOf(3), 2, x.word))
	e := New(x.h, x.states...)
	done(t, e, small, api.ErrStale, 0, small.Cells())
	looks(t, e, great, x)
	done(t, e, small, api.ErrStale, 0, small.Cells())
	takes(t, e, great, x)
	done(t, e, small, api.ErrStale, x.word|busyBit, small.Cells())
	if small.Count() != 0 {
		t.Errorf("P10.1: %d accesses of a world that has no such slot", small.Count())
	}
	busy := New(x.h, x.states...)
	looks(t, busy, great, asked{x.h, x.states, x.word | busyBit})
	done(t, busy, small, api.ErrStale, 0, small.Cells())
	done(t, busy, great, api.ErrBusy, 0, great.Cells())
}

// TestLosesAndLooksAnew: between look and take the status becomes another one:
// all of it is judged anew, and a conflict that was laid stays.
func TestLosesAndLooksAnew(t *testing.T) {
	x := asked{ticketOf(1, 5), []int{status.Active, status.Committed}, 5*genUnit | stateOf(status.Active)}
	for _, state := range []int{0, 1, 2, 3, 4, 5, 6, 7} {
		for _, gen := range []uint64{4, 5, 6} {
			for _, rest := range rests {
				for _, busy := range []uint64{0, busyBit} {
					now := stateOf(state) | gen*genUnit | rest | busy
					if now == x.word {
						continue
					}
					m, e := made(t, worldOf(2), words(worldOf(2), 1, x.word)), New(x.h, x.states...)
					looks(t, e, m, x)
					m.Store(statusSpot(1), now)
					step(t, e, m, swapped(1, now, x.word, 0))
					after := asked{x.h, x.states, now}
					if looks(t, e, m, after) == api.OK {
						takes(t, e, m, after)
					}
				}
			}
		}
	}
}

// TestLosesAgainAndAgain: each bit of both sides is laid ahead of a take.
func TestLosesAgainAndAgain(t *testing.T) {
	x := asked{ticketOf(0, 0), []int{status.Committed}, stateOf(status.Committed)}
	m, e := made(t, worldOf(1), words(worldOf(1), 0, x.word)), New(x.h, x.states...)
	for bit := range 26 {
		looks(t, e, m, x)
		now := x.word | 1<<bit
		m.Store(statusSpot(0), now)
		step(t, e, m, swapped(0, now, x.word, 0))
		x.word = now
	}
	looks(t, e, m, x)
	takes(t, e, m, x)
}

// TestComesBack: a swap sees no more than words: one that is again what was
// seen is taken.
func TestComesBack(t *testing.T) {
	x := asked{ticketOf(0, 3), []int{status.Active}, 3*genUnit | stateOf(status.Active)}
	m, e := made(t, worldOf(1), words(worldOf(1), 0, x.word)), New(x.h, x.states...)
	looks(t, e, m, x)
	m.Store(statusSpot(0), x.word|busyBit)
	m.Store(statusSpot(0), x.word)
	takes(t, e, m, x)
}

// TestKeepsNoList: the list of states is the caller's, who writes into it.
func TestKeepsNoList(t *testing.T) {
	x := asked{ticketOf(0, 0), []int{status.Dead, status.Active}, stateOf(status.Active)}
	list := slices.Clone(x.states)
	m, e := made(t, worldOf(1), words(worldOf(1), 0, x.word)), New(x.h, list...)
	list[1] = status.Clear
	looks(t, e, m, x)
	takes(t, e, m, x)
	if !slices.Equal(list, []int{status.Dead, status.Clear}) {
		t.Errorf("R5: the list of states was changed to %d", list)
	}
}

// leaves steps one that has begun, over a word that nobody else changes, from
// its look to its end.
func leaves(t *testing.T, l *Leave, m *store.Memory, slot int, word, v uint64) {
	t.Helper()
	want := m.Cells()
	put(m.Config(), want, slot, v)
	stepLeave(t, l, m, loaded(slot, word))
	stepLeave(t, l, m, swapped(slot, word, word, v))
	count := m.Count()
	for range 3 {
		if !l.Done() {
			t.Error("P10.2: it is not done")
		}
		l.Step(m)
	}
	if m.Count() != count {
		t.Error("P10.2: a step of one that is done was an access")
	}
	if !slices.Equal(m.Cells(), want) {
		t.Errorf("P10.2: the words are %d, not %d", m.Cells(), want)
	}
}

func stepLeave(t *testing.T, l *Leave, m *store.Memory, want store.Touch) {
	t.Helper()
	count := m.Count()
	if l.Done() {
		t.Errorf("P10.2: it is done ahead of %+v", want)
	}
	l.Step(m)
	l.Done()
	touched(t, "P10.2", m, count+1, want)
}

// left is a status behind its call's end, by the chapter's words.
func left(word uint64, state int) uint64 {
	if state < 0 || state > 7 {
		return word &^ busyBit
	}
	return word&^(stateMask|busyBit) | stateOf(state)
}

func TestStay(t *testing.T) {
	if Stay != -1 {
		t.Errorf("P10.2: Stay is %d, not -1", Stay)
	}
}

func TestLeavesEachSlot(t *testing.T) {
	for slots := 1; slots <= api.MaxSlots; slots++ {
		for slot := range slots {
			word := 5*genUnit | stateOf(status.Active) | busyBit | 6
			m := made(t, worldOf(slots), words(worldOf(slots), slot, word))
			leaves(t, NewLeave(slot, status.Aborted), m, slot, word, left(word, status.Aborted))
		}
	}
}

// TestLeavesEachStatus: whatever it is like, Busy or not, it is left with the
// state that was told, or its own.
func TestLeavesEachStatus(t *testing.T) {
	for _, state := range append([]int{0, 1, 2, 3, 4, 5, 6, 7}, oddStates...) {
		for n := range 16 * len(rests) {
			for _, gen := range append(gens, api.MaxGen+1, 1<<32-1) {
				word := stateOf(n%8) | uint64(n/8%2)*busyBit | rests[n/16] | gen*genUnit
				m := made(t, worldOf(2), words(worldOf(2), 1, word))
				leaves(t, NewLeave(1, state), m, 1, word, left(word, state))
			}
		}
	}
}

// TestLeaveLoses: what it lays is made of what was looked at last, so that a
// conflict that was laid meanwhile stays, and so does a state, if it is to.
func TestLeaveLoses(t *testing.T) {
	word := 5*genUnit | stateOf(status.Active) | busyBit
	for _, state := range []int{Stay, 8, status.Free, status.Aborted, status.Clear} {
		for _, now := range []uint64{word | 1, word | 1<<23, word | 3<<24, word ^ busyBit, word + stateUnit, word + genUnit, 0, 1<<64 - 1} {
			for times := range 4 {
				m := made(t, worldOf(2), words(worldOf(2), 0, word))
				l := NewLeave(0, state)
				for range times {
					m.Store(statusSpot(0), word)
					stepLeave(t, l, m, loaded(0, word))
					m.Store(statusSpot(0), now)
					stepLeave(t, l, m, swapped(0, now, word, 0))
				}
				m.Store(statusSpot(0), now)
				leaves(t, l, m, 0, now, left(now, state))
			}
		}
	}
}

// TestLeavesOfStrangers: they change nothing, and are never done, but each
// Step ends.
func TestLeavesOfStrangers(t *testing.T) {
	for _, slot := range []int{math.MinInt, -1, 3, api.MaxSlots - 1, api.MaxSlots, 1 << 32, math.MaxInt} {
		want := words(worldOf(3), slot, 0)
		m, l := made(t, worldOf(3), want), NewLeave(slot, status.Aborted)
		for range 5 {
			stepLeave(t, l, m, store.Touch{Kind: store.Loads, Spot: statusSpot(slot)})
			stepLeave(t, l, m, store.Touch{Kind: store.Swaps, Spot: statusSpot(slot)})
		}
		if l.Done() || !slices.Equal(m.Cells(), want) {
			t.Errorf("P10.2: of slot %d: Done is %t, the words are %d", slot, l.Done(), m.Cells())
		}
	}
}

// TestEntersAgain: behind a leave another call may enter, with the same ticket
// and for the state that was left.
func TestEntersAgain(t *testing.T) {
	m := made(t, worldOf(2), words(worldOf(2), 1, 5*genUnit|stateOf(status.Active)))
	for _, x := range []struct{ from, to, now int }{
		{status.Active, Stay, status.Active},
		{status.Active, status.Committed, status.Committed},
		{status.Committed, Stay, status.Committed},
		{status.Committed, status.Dead, status.Dead},
	} {
		word := 5*genUnit | stateOf(x.from)
		one := asked{ticketOf(1, 5), []int{x.from}, word}
		e := New(one.h, one.states...)
		looks(t, e, m, one)
		takes(t, e, m, one)
		leaves(t, NewLeave(e.Slot(), x.to), m, 1, e.Word(), 5*genUnit|stateOf(x.now))
	}
}

// TestMachinesOfTheirOwn: what one keeps is not another one's.
func TestMachinesOfTheirOwn(t *testing.T) {
	c := worldOf(2)
	list := words(c, 0, stateOf(status.Active))
	put(c, list, 1, 7*genUnit|stateOf(status.Dead)|1)
	m := made(t, c, list)
	first, second := asked{1, []int{status.Active}, stateOf(status.Active)}, asked{ticketOf(1, 7), []int{status.Dead}, 7*genUnit | stateOf(status.Dead) | 1}
	a, b := New(first.h, first.states...), New(second.h, second.states...)
	looks(t, a, m, first)
	looks(t, b, m, second)
	takes(t, a, m, first)
	takes(t, b, m, second)
	done(t, a, m, api.OK, first.word|busyBit, m.Cells())
	x, y := NewLeave(0, status.Aborted), NewLeave(1, Stay)
	stepLeave(t, x, m, loaded(0, first.word|busyBit))
	leaves(t, y, m, 1, second.word|busyBit, second.word)
	stepLeave(t, x, m, swapped(0, first.word|busyBit, first.word|busyBit, stateOf(status.Aborted)))
}

// player is one of those who step over one status, one access each time. It
// tells whether it was not done.
type player func(m *store.Memory) bool

// layer lays so many conflicts, as others do: each by a look and a swap, which
// is tried until it tells true.
func layer(many int) player {
	var seen uint64
	looked, bit := false, 0
	return func(m *store.Memory) bool {
		if bit == many {
			return false
		}
		if !looked {
			seen, looked = m.Load(statusSpot(0)), true
			return true
		}
		looked = false
		if m.Swap(statusSpot(0), seen, seen|1<<bit) {
			bit++
		}
		return true
	}
}

func enters(e *Enter) player {
	return func(m *store.Memory) bool {
		was := e.Done(m)
		e.Step(m)
		return !was
	}
}

// leavesBehind leaves, once the enter has ended, if that was told no error.
func leavesBehind(e *Enter, state int) player {
	l := NewLeave(0, state)
	return func(m *store.Memory) bool {
		if !e.Done(m) {
			e.Step(m)
			return true
		}
		if e.Error(m) != api.OK || l.Done() {
			return false
		}
		l.Step(m)
		return true
	}
}

// each plays every order of the players' steps, from the start each time, as
// machines can't be copied, and asks of each one at its end.
func each(t *testing.T, order []int, start func() (*store.Memory, []player, func())) int {
	t.Helper()
	if len(order) > 40 {
		t.Fatalf("P10.1: %d never ends", order)
	}
	ends, over := 0, true
	_, players, _ := start()
	for next := range players {
		m, players, _ := start()
		for _, i := range order {
			players[i](m)
		}
		if players[next](m) {
			over = false
			ends += each(t, append(slices.Clone(order), next), start)
		}
	}
	if over {
		m, players, end := start()
		for _, i := range order {
			players[i](m)
		}
		end()
		return 1
	}
	return ends
}

// TestTwoEnter: in every order of their steps, and of those of one that lays
// conflicts meanwhile, one gets in, and the other one is told that it did.
func TestTwoEnter(t *testing.T) {
	for many := range 3 {
		ends := each(t, nil, func() (*store.Memory, []player, func()) {
			m := made(t, worldOf(1), words(worldOf(1), 0, stateOf(status.Active)))
			a, b := New(1, status.Active), New(1, status.Committed, status.Active)
			return m, []player{enters(a), enters(b), layer(many)}, func() {
				got := []api.Errno{a.Error(m), b.Error(m)}
				slices.Sort(got)
				if !slices.Equal(got, []api.Errno{api.OK, api.ErrBusy}) {
					t.Fatalf("P10.3: two that entered are told %d", got)
				}
				if want := stateOf(status.Active) | busyBit | (1<<many - 1); m.Load(statusSpot(0)) != want {
					t.Fatalf("P10.3: behind %d conflicts the status is %d, not %d", many, m.Load(statusSpot(0)), want)
				}
			}
		})
		if ends < 6 {
			t.Errorf("P10.3: %d orders", ends)
		}
	}
}

// TestManyEnter: nor do three get in, nor who comes behind them.
func TestManyEnter(t *testing.T) {
	each(t, nil, func() (*store.Memory, []player, func()) {
		m := made(t, worldOf(1), words(worldOf(1), 0, stateOf(status.Committed)))
		list := []*Enter{New(1, status.Committed), New(1, status.Committed), New(1, status.Committed)}
		var players []player
		for _, e := range list {
			players = append(players, enters(e))
		}
		return m, players, func() {
			late := New(1, status.Committed)
			late.Step(m)
			in := 0
			for _, e := range append(list, late) {
				if e.Error(m) == api.OK {
					in++
				}
			}
			if in != 1 || late.Error(m) != api.ErrBusy {
				t.Fatalf("P10.3: %d of four are in", in)
			}
		}
	})
}

// TestConflictsAreNotLost: whoever lays them while one enters and leaves, they
// are there behind it.
func TestConflictsAreNotLost(t *testing.T) {
	for _, state := range []int{Stay, status.Aborted} {
		each(t, nil, func() (*store.Memory, []player, func()) {
			m := made(t, worldOf(1), words(worldOf(1), 0, stateOf(status.Active)))
			e := New(1, status.Active)
			return m, []player{leavesBehind(e, state), layer(3)}, func() {
				if want := left(stateOf(status.Active)|7, state); m.Load(statusSpot(0)) != want {
					t.Fatalf("P10.3: the status is %d, not %d", m.Load(statusSpot(0)), want)
				}
			}
		})
	}
}
