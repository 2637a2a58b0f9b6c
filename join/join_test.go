package join

import (
	"math"
	"slices"
	"testing"

	"umpire/api"
	"umpire/chart"
	"umpire/status"
	"umpire/store"
)

// Where a status has its past bits, Busy, its state and its generation, by
// chapter 1.
const (
	outPast   = 1 << 24
	inPast    = 1 << 25
	busyBit   = 1 << 26
	stateUnit = 1 << 27
	stateMask = 7 * stateUnit
	genUnit   = 1 << 30
	outMask   = 0xfff | outPast
	inMask    = 0xfff<<12 | inPast
)

// rests are the bits of a status beside its state and both sides: no world has
// the last ones.
var rests = []uint64{0, busyBit, 5 * genUnit, (api.MaxGen+1)*genUnit | busyBit, (1<<64 - 1) &^ (stateMask | outMask | inMask)}

// conflicts are what may be on both sides: nothing, one slot, all of them, or
// one that is past.
var conflicts = []uint64{
	0, 1, 1 << 11, 1 << 12, 1 << 23, outPast, inPast,
	1 | 1<<12, 1<<2 | inPast, outPast | 1<<14, outPast | inPast,
	0xfff, 0xfff << 12, 0xfff | inPast, outMask, inMask, outMask | inMask,
}

// oddSides and oddSlots are such as there are no bits of, though those of some
// would be, if only their low bits counted.
var oddSides = []int{math.MinInt, math.MinInt + 1, -12, -2, -1, 2, 3, 1 << 32, 1<<32 + 1, math.MaxInt - 1, math.MaxInt}

var oddSlots = []int{math.MinInt, -12, -1, 12, 13, 24, 64, 1 << 32, math.MaxInt}

// asked is what one lays, where the slot's status and number are these.
type asked struct {
	slot, side, by         int
	snapshot, word, number uint64
}

func worldOf(slots int) api.Config {
	return api.Config{Threads: 2, Slots: slots, Keys: 2, LastGen: 9, LastSeq: 9}
}

func spotOf(kind, slot int) chart.Spot { return chart.Spot{Kind: kind, Of: slot} }

// stateOf is a status of a state alone.
func stateOf(state int) uint64 { return uint64(state) * stateUnit }

func stateIn(word uint64) int { return int(word & stateMask / stateUnit) }

// bitOf is 0 where there is no such bit.
func bitOf(side, by int) uint64 {
	if side < 0 || side > 1 || by < 0 || by >= api.MaxSlots {
		return 0
	}
	return 1 << (12*side + by)
}

// against is all that a status may have of the side that is 1 less this one.
func against(side int) uint64 {
	switch side {
	case 0:
		return inMask
	case 1:
		return outMask
	}
	return 0
}

// words tells as many as the world has cells, no two alike, but for the slot's
// status and number.
func words(c api.Config, x asked) []uint64 {
	list := make([]uint64, chart.Len(c))
	for i := range list {
		list[i] = 1000 + 7*uint64(i)
	}
	put(c, list, spotOf(chart.Status, x.slot), x.word)
	put(c, list, spotOf(chart.Number, x.slot), x.number)
	return list
}

// put does nothing where the world has no such spot.
func put(c api.Config, list []uint64, s chart.Spot, word uint64) {
	if cell := chart.Cell(c, s); cell >= 0 {
		list[cell] = word
	}
}

func made(t *testing.T, c api.Config, list []uint64) *store.Memory {
	t.Helper()
	m, e := store.Of(c, list)
	if e != api.OK {
		t.Fatalf("there is no memory of %+v: %d", c, e)
	}
	return m
}

func loaded(s chart.Spot, word uint64) store.Touch {
	return store.Touch{Kind: store.Loads, Spot: s, Old: word, New: word, Done: true}
}

// swapped is the Touch of a swap from old to v of a status that was word.
func swapped(slot int, word, old, v uint64) store.Touch {
	if word != old {
		v = word
	}
	return store.Touch{Kind: store.Swaps, Spot: spotOf(chart.Status, slot), Old: word, New: v, Done: word == old}
}

// touched holds a step against what the memory tells of it.
func touched(t *testing.T, promise string, m *store.Memory, count int, want store.Touch) {
	t.Helper()
	if m.Count() != count || m.Last() != want {
		t.Errorf("%s: %d accesses, not %d, the last %+v, not %+v", promise, m.Count(), count, m.Last(), want)
	}
}

// step asks for its result ahead of the step and behind it, as to tell is no
// access.
func step(t *testing.T, j *Join, m *store.Memory, want store.Touch) {
	t.Helper()
	count := m.Count()
	if j.Result() != Going {
		t.Errorf("P11.1: ahead of %+v the Result is %d", want, j.Result())
	}
	j.Step(m)
	j.Result()
	touched(t, "P11.1", m, count+1, want)
}

func stepOwn(t *testing.T, o *Own, m *store.Memory, want store.Touch) {
	t.Helper()
	count := m.Count()
	if o.Done() {
		t.Errorf("P11.2: it is done ahead of %+v", want)
	}
	o.Step(m)
	o.Done()
	touched(t, "P11.2", m, count+1, want)
}

// said asks that it is, and always will be, and that Steps do nothing from
// then on.
func said(t *testing.T, j *Join, m *store.Memory, result int, want []uint64) {
	t.Helper()
	count := m.Count()
	for range 3 {
		if j.Result() != result {
			t.Errorf("P11.1: the Result is %d, not %d", j.Result(), result)
		}
		j.Step(m)
	}
	if m.Count() != count {
		t.Error("P11.1: a step behind its end was an access")
	}
	if !slices.Equal(m.Cells(), want) {
		t.Errorf("P11.1: the words are %d, not %d", m.Cells(), want)
	}
}

func ownDone(t *testing.T, o *Own, m *store.Memory, want []uint64) {
	t.Helper()
	count := m.Count()
	for range 3 {
		if !o.Done() {
			t.Error("P11.2: it is not done")
		}
		o.Step(m)
	}
	if m.Count() != count {
		t.Error("P11.2: a step of one that is done was an access")
	}
	if !slices.Equal(m.Cells(), want) {
		t.Errorf("P11.2: the words are %d, not %d", m.Cells(), want)
	}
}

// judged tells by the chapter's words what is judged: Going, if it is to be laid.
func (x asked) judged() int {
	switch {
	case x.word&bitOf(x.side, x.by) != 0:
		return Laid
	case stateIn(x.word) != status.Active && x.word&against(x.side) != 0:
		return Fail
	}
	return Going
}

// looks asks for all steps ahead of lay, over words that have just been laid
// there, and tells what they came to.
func looks(t *testing.T, j *Join, m *store.Memory, x asked) int {
	t.Helper()
	step(t, j, m, loaded(spotOf(chart.Status, x.slot), x.word))
	result := None
	switch stateIn(x.word) {
	case status.Committed:
		step(t, j, m, loaded(spotOf(chart.Number, x.slot), x.number))
		if x.number == 0 || x.number > x.snapshot {
			result = x.judged()
		}
	case status.Active, status.Committing:
		result = x.judged()
	}
	if result != Going {
		said(t, j, m, result, m.Cells())
	}
	return result
}

// lays asks for a step lay that tells true, and for the end.
func lays(t *testing.T, j *Join, m *store.Memory, x asked) {
	t.Helper()
	want, v := m.Cells(), x.word|bitOf(x.side, x.by)
	step(t, j, m, swapped(x.slot, x.word, x.word, v))
	put(m.Config(), want, spotOf(chart.Status, x.slot), v)
	said(t, j, m, Laid, want)
}

// oneJoin steps alone from its beginning to beyond its end.
func oneJoin(t *testing.T, c api.Config, x asked) {
	t.Helper()
	list := words(c, x)
	m, j := made(t, c, list), New(x.slot, x.side, x.by, x.snapshot)
	if looks(t, j, m, x) == Going {
		lays(t, j, m, x)
	} else if !slices.Equal(m.Cells(), list) {
		t.Errorf("P11.1: nothing was laid, and the words are %d, not %d", m.Cells(), list)
	}
	if t.Failed() {
		t.Fatalf("P11.1: of %+v in %+v", x, c)
	}
}

// ownLays steps one that has begun, over a word that nobody else changes, from
// its look to its end.
func ownLays(t *testing.T, o *Own, m *store.Memory, x asked) {
	t.Helper()
	want, v := m.Cells(), x.word|bitOf(x.side, x.by)
	stepOwn(t, o, m, loaded(spotOf(chart.Status, x.slot), x.word))
	if v != x.word {
		stepOwn(t, o, m, swapped(x.slot, x.word, x.word, v))
	}
	put(m.Config(), want, spotOf(chart.Status, x.slot), v)
	ownDone(t, o, m, want)
}

func oneOwn(t *testing.T, c api.Config, x asked) {
	t.Helper()
	ownLays(t, NewOwn(x.slot, x.side, x.by), made(t, c, words(c, x)), x)
	if t.Failed() {
		t.Fatalf("P11.2: of %+v in %+v", x, c)
	}
}

func TestResults(t *testing.T) {
	if got := [...]int{Going, None, Laid, Fail}; got != [...]int{0, 1, 2, 3} {
		t.Errorf("P11.1: the results are %d", got)
	}
}

func TestExamples(t *testing.T) {
	for _, x := range []struct {
		word   uint64
		result int
		behind uint64
	}{
		{stateOf(status.Active), Laid, stateOf(status.Active) | 4096},
		{stateOf(status.Committing) | 4, Fail, stateOf(status.Committing) | 4},
	} {
		m := made(t, worldOf(3), words(worldOf(3), asked{slot: 1, word: x.word}))
		j := New(1, status.In, 0, 5)
		for j.Result() == Going && m.Count() < 9 {
			j.Step(m)
		}
		if got := m.Load(spotOf(chart.Status, 1)); j.Result() != x.result || got != x.behind {
			t.Errorf("P11.1: the Result is %d, not %d, the status %d, not %d", j.Result(), x.result, got, x.behind)
		}
	}
}

// TestEachStatus: of every state, with whatever on its sides, and of numbers
// about the snapshot.
func TestEachStatus(t *testing.T) {
	for n := range 8 * len(rests) * len(conflicts) {
		word := stateOf(n%8) | rests[n/8%len(rests)] | conflicts[n/8/len(rests)]
		for _, side := range []int{status.Out, status.In} {
			for _, by := range []int{0, 2, 11} {
				for _, number := range []uint64{0, 1, 4, 5, 6, 1<<64 - 1} {
					oneJoin(t, worldOf(2), asked{1, side, by, 5, word, number})
				}
				oneOwn(t, worldOf(2), asked{slot: 1, side: side, by: by, word: word, number: 5})
			}
		}
	}
}

// TestEachSlot: each one, and each that is to be on its side, that of the
// greatest number and itself as well.
func TestEachSlot(t *testing.T) {
	for slots := 1; slots <= api.MaxSlots; slots++ {
		for slot := range slots {
			for by := range api.MaxSlots {
				for _, side := range []int{status.Out, status.In} {
					for _, state := range []int{status.Active, status.Committing, status.Committed} {
						for _, conflict := range conflicts {
							x := asked{slot, side, by, 5, stateOf(state) | conflict, 6}
							oneJoin(t, worldOf(slots), x)
							oneOwn(t, worldOf(slots), x)
						}
					}
				}
			}
		}
	}
}

// TestSnapshots: a number is past up to the snapshot, and never if it is 0.
func TestSnapshots(t *testing.T) {
	edges := []uint64{0, 1, 2, 5, api.MaxSeq - 1, api.MaxSeq, 1 << 63, 1<<64 - 2, 1<<64 - 1}
	for _, snapshot := range edges {
		for _, number := range edges {
			for state := range 8 {
				for _, conflict := range conflicts {
					oneJoin(t, worldOf(1), asked{0, status.In, 2, snapshot, stateOf(state) | conflict, number})
				}
			}
		}
	}
}

// TestNoSuchBit: a Join swaps the word from itself to itself, an Own is done
// behind its look.
func TestNoSuchBit(t *testing.T) {
	for n := range 8 * len(rests) * len(conflicts) {
		word := stateOf(n%8) | rests[n/8%len(rests)] | conflicts[n/8/len(rests)]
		for _, side := range append(oddSides, status.Out, status.In) {
			for _, by := range append(oddSlots, 0, 11) {
				if bitOf(side, by) != 0 {
					continue
				}
				oneJoin(t, worldOf(2), asked{1, side, by, 5, word, 6})
				oneOwn(t, worldOf(2), asked{1, side, by, 5, word, 6})
			}
		}
	}
}

// TestNoSuchSlot: nobody goes on there, so a Join says that; an Own is never
// done, but each Step ends and changes nothing.
func TestNoSuchSlot(t *testing.T) {
	for _, slot := range []int{math.MinInt, -1, 3, api.MaxSlots - 1, api.MaxSlots, 1 << 32, math.MaxInt} {
		want := words(worldOf(3), asked{slot: slot})
		nowhere := store.Touch{Kind: store.Loads, Spot: spotOf(chart.Status, slot)}
		m, j := made(t, worldOf(3), want), New(slot, status.In, 0, 5)
		step(t, j, m, nowhere)
		said(t, j, m, None, want)
		o := NewOwn(slot, status.In, 0)
		for range 5 {
			stepOwn(t, o, m, nowhere)
			stepOwn(t, o, m, store.Touch{Kind: store.Swaps, Spot: spotOf(chart.Status, slot)})
		}
		if o.Done() || !slices.Equal(m.Cells(), want) {
			t.Errorf("P11.2: of slot %d: Done is %t, the words are %d", slot, o.Done(), m.Cells())
		}
		odd := NewOwn(slot, 2, 0)
		stepOwn(t, odd, m, nowhere)
		ownDone(t, odd, m, want)
	}
}

// TestLosesAndLooksAnew: between look and lay the status becomes another one:
// all of it is judged anew, and what was laid meanwhile stays.
func TestLosesAndLooksAnew(t *testing.T) {
	for n := range 8 * len(rests) * len(conflicts) {
		now := stateOf(n%8) | rests[n/8%len(rests)] | conflicts[n/8/len(rests)]
		for _, side := range []int{status.Out, status.In} {
			for _, was := range []uint64{stateOf(status.Active) | outPast | inPast, stateOf(status.Committing), stateOf(status.Committed)} {
				if now == was {
					continue
				}
				before, x := asked{1, side, 0, 5, was, 6}, asked{1, side, 0, 5, now, 4 + uint64(n%3)}
				m, j := made(t, worldOf(2), words(worldOf(2), before)), New(1, side, 0, 5)
				for range 3 {
					m.Store(spotOf(chart.Status, 1), was)
					m.Store(spotOf(chart.Number, 1), before.number)
					looks(t, j, m, before)
					m.Store(spotOf(chart.Status, 1), now)
					m.Store(spotOf(chart.Number, 1), x.number)
					step(t, j, m, swapped(1, now, was, 0))
				}
				if looks(t, j, m, x) == Going {
					lays(t, j, m, x)
				}
				if t.Failed() {
					t.Fatalf("P11.1: from %d to %+v", was, x)
				}
			}
		}
	}
}

// TestChangesBehindLook: what is judged behind number is the status that was
// looked at, not the one that is there by then.
func TestChangesBehindLook(t *testing.T) {
	x := asked{1, status.In, 0, 5, stateOf(status.Committed), 6}
	for _, now := range []uint64{x.word | 1, x.word | outPast, x.word | 1<<12, stateOf(status.Dead), 0} {
		m, j := made(t, worldOf(2), words(worldOf(2), x)), New(1, status.In, 0, 5)
		step(t, j, m, loaded(spotOf(chart.Status, 1), x.word))
		m.Store(spotOf(chart.Status, 1), now)
		step(t, j, m, loaded(spotOf(chart.Number, 1), 6))
		step(t, j, m, swapped(1, now, x.word, 0))
		again := x
		again.word = now
		if looks(t, j, m, again) == Going {
			t.Errorf("P11.1: over %d it goes on", now)
		}
	}
	fails := asked{1, status.In, 0, 5, stateOf(status.Committed) | 1, 6}
	m, j := made(t, worldOf(2), words(worldOf(2), fails)), New(1, status.In, 0, 5)
	step(t, j, m, loaded(spotOf(chart.Status, 1), fails.word))
	m.Store(spotOf(chart.Status, 1), x.word)
	step(t, j, m, loaded(spotOf(chart.Number, 1), 6))
	said(t, j, m, Fail, m.Cells())
}

// TestComesBack: a swap sees no more than words: one that is again what was
// seen is laid on.
func TestComesBack(t *testing.T) {
	x := asked{0, status.Out, 2, 5, stateOf(status.Active) | 1<<14, 0}
	m, j, o := made(t, worldOf(1), words(worldOf(1), x)), New(0, status.Out, 2, 5), NewOwn(0, status.Out, 2)
	looks(t, j, m, x)
	stepOwn(t, o, m, loaded(spotOf(chart.Status, 0), x.word))
	m.Store(spotOf(chart.Status, 0), 0)
	m.Store(spotOf(chart.Status, 0), x.word)
	lays(t, j, m, x)
	m.Store(spotOf(chart.Status, 0), x.word)
	stepOwn(t, o, m, swapped(0, x.word, x.word, x.word|4))
	ownDone(t, o, m, m.Cells())
}

// TestOwnLoses: what it lays is made of what was looked at last, whatever
// state that has.
func TestOwnLoses(t *testing.T) {
	was := stateOf(status.Active) | busyBit | 5*genUnit
	for n := range 8 * len(rests) * len(conflicts) {
		now := stateOf(n%8) | rests[n/8%len(rests)] | conflicts[n/8/len(rests)]
		for _, side := range []int{status.Out, status.In} {
			if now == was {
				continue
			}
			x := asked{slot: 1, side: side, by: 2, word: now}
			m, o := made(t, worldOf(2), words(worldOf(2), x)), NewOwn(1, side, 2)
			for range 3 {
				m.Store(spotOf(chart.Status, 1), was)
				stepOwn(t, o, m, loaded(spotOf(chart.Status, 1), was))
				m.Store(spotOf(chart.Status, 1), now)
				stepOwn(t, o, m, swapped(1, now, was, 0))
			}
			ownLays(t, o, m, x)
		}
	}
}

// TestMachinesOfTheirOwn: what one keeps is not another one's.
func TestMachinesOfTheirOwn(t *testing.T) {
	c := worldOf(2)
	first, second := asked{0, status.In, 1, 5, stateOf(status.Committed) | 1<<14, 6}, asked{1, status.Out, 0, 7, stateOf(status.Active), 4}
	list := words(c, first)
	put(c, list, spotOf(chart.Status, 1), second.word)
	put(c, list, spotOf(chart.Number, 1), second.number)
	m := made(t, c, list)
	a, b := New(0, status.In, 1, 5), New(1, status.Out, 0, 7)
	x, y := NewOwn(0, status.In, 3), NewOwn(1, status.Out, 3)
	looks(t, a, m, first)
	looks(t, b, m, second)
	lays(t, a, m, first)
	stepOwn(t, x, m, loaded(spotOf(chart.Status, 0), first.word|1<<13))
	lays(t, b, m, second)
	stepOwn(t, y, m, loaded(spotOf(chart.Status, 1), second.word|1))
	stepOwn(t, x, m, swapped(0, first.word|1<<13, first.word|1<<13, first.word|1<<13|1<<15))
	stepOwn(t, y, m, swapped(1, second.word|1, second.word|1, second.word|1|8))
	ownDone(t, x, m, m.Cells())
	ownDone(t, y, m, m.Cells())
}
