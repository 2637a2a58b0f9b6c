package write

import (
	"slices"
	"testing"

	"umpire/api"
	"umpire/chart"
	"umpire/status"
	"umpire/store"
)

// Where a status has its past bits, Busy, its state and its generation, by
// chapter 1.
const (
	outPast   = 1 << 24
	inPast    = 1 << 25
	busyBit   = 1 << 26
	stateUnit = 1 << 27
	stateMask = 7 * stateUnit
	genUnit   = 1 << 30
	genMask   = (1<<32 - 1) * genUnit
	outMask   = 0xfff | outPast
	inMask    = 0xfff<<12 | inPast
)

// asked is a write: whose, and of which key.
type asked struct {
	h   uint64
	key int
}

// jolt is a word that others store, ahead of the write's access of that number.
type jolt struct {
	ahead int
	spot  chart.Spot
	word  uint64
}

// script does to words, in straight lines, what the chapters say that a write
// does, and lists its accesses.
type script struct {
	c     api.Config
	cells []uint64
	jolts []jolt
	list  []store.Touch
}

// What the laying of a conflict comes to.
const (
	none = iota
	laid
	failed
)

func spotOf(kind, of int) chart.Spot { return chart.Spot{Kind: kind, Of: of} }

// stateOf is a status of a state alone.
func stateOf(state int) uint64 { return uint64(state) * stateUnit }

func stateIn(word uint64) int { return int(word & stateMask / stateUnit) }

// out and in are the bits of conflicts to a slot, and from it.
func out(slot int) uint64 { return 1 << slot }

func in(slot int) uint64 { return 1 << (12 + slot) }

// reader and writer are a slot's marks in a key's word, by chapter 2.
func reader(slot int) uint64 { return 1 << slot }

func writer(slot int) uint64 { return 1 << (12 + slot) }

// ticketOf tells a ticket's word by chapter 4.
func ticketOf(slot int, gen uint64) uint64 { return gen<<4 | uint64(slot+1) }

func slotOf(h uint64) int { return int(h&15) - 1 }

// put does nothing where the world has no such spot.
func put(c api.Config, list []uint64, s chart.Spot, word uint64) {
	if cell := chart.Cell(c, s); cell >= 0 {
		list[cell] = word
	}
}

func made(t *testing.T, c api.Config, list []uint64) *store.Memory {
	t.Helper()
	m, e := store.Of(c, list)
	if e != api.OK {
		t.Fatalf("there is no memory of %+v: %d", c, e)
	}
	return m
}

func (s *script) access(kind int, spot chart.Spot, turn func(word uint64) (uint64, bool)) store.Touch {
	for _, j := range s.jolts {
		if j.ahead == len(s.list) {
			put(s.c, s.cells, j.spot, j.word)
		}
	}
	t := store.Touch{Kind: kind, Spot: spot}
	if cell := chart.Cell(s.c, spot); cell >= 0 {
		t.Old = s.cells[cell]
		t.New, t.Done = turn(t.Old)
		s.cells[cell] = t.New
	}
	s.list = append(s.list, t)
	return t
}

func (s *script) load(spot chart.Spot) uint64 {
	return s.access(store.Loads, spot, func(word uint64) (uint64, bool) { return word, true }).Old
}

func (s *script) swap(spot chart.Spot, old, v uint64) bool {
	return s.access(store.Swaps, spot, func(word uint64) (uint64, bool) {
		if word != old {
			return word, false
		}
		return v, true
	}).Done
}

func (s *script) write(x asked) api.Errno {
	i := slotOf(x.h)
	if e := s.enter(i, x.h>>4); e != api.OK {
		return e
	}
	n := s.load(spotOf(chart.Snapshot, i))
	w, marked := s.marked(i, x.key, n)
	if !marked {
		s.leave(i, status.Aborted)
		return api.ErrClash
	}
	for j := range api.MaxSlots {
		if j == i || w&reader(j) == 0 {
			continue
		}
		switch s.join(j, i, n) {
		case laid:
			s.own(i, j)
		case failed:
			s.leave(i, status.Aborted)
			return api.ErrFail
		}
	}
	s.leave(i, -1)
	return api.OK
}

func (s *script) enter(i int, gen uint64) api.Errno {
	for {
		w := s.load(spotOf(chart.Status, i))
		switch {
		case w&genMask/genUnit != gen || stateIn(w) == status.Free || stateIn(w) == status.Beginning:
			return api.ErrStale
		case w&busyBit != 0:
			return api.ErrBusy
		case stateIn(w) != status.Active:
			return api.ErrState
		}
		if s.swap(spotOf(chart.Status, i), w, w|busyBit) {
			return api.OK
		}
	}
}

// marked tells the key's word in which the readers are, and whether no rival
// stood against the mark.
func (s *script) marked(i, key int, n uint64) (uint64, bool) {
	for {
		w := s.load(spotOf(chart.Key, key))
		for j := range api.MaxSlots {
			if j != i && w&writer(j) != 0 && s.against(j, n) {
				return 0, false
			}
		}
		if w&writer(i) != 0 || s.swap(spotOf(chart.Key, key), w, w|writer(i)) {
			return w, true
		}
	}
}

// against tells whether a rival goes on with one of the snapshot n.
func (s *script) against(j int, n uint64) bool {
	switch stateIn(s.load(spotOf(chart.Status, j))) {
	case status.Active, status.Committing:
		return true
	case status.Committed:
		number := s.load(spotOf(chart.Number, j))
		return number == 0 || number > n
	}
	return false
}

func (s *script) join(j, i int, n uint64) int {
	for {
		w := s.load(spotOf(chart.Status, j))
		switch stateIn(w) {
		case status.Committed:
			if number := s.load(spotOf(chart.Number, j)); number != 0 && number <= n {
				return none
			}
		case status.Active, status.Committing:
		default:
			return none
		}
		switch {
		case w&out(i) != 0:
			return laid
		case stateIn(w) != status.Active && w&inMask != 0:
			return failed
		case s.swap(spotOf(chart.Status, j), w, w|out(i)):
			return laid
		}
	}
}

func (s *script) own(i, j int) {
	for {
		w := s.load(spotOf(chart.Status, i))
		if w&in(j) != 0 || s.swap(spotOf(chart.Status, i), w, w|in(j)) {
			return
		}
	}
}

// leave keeps the state, if that is told to be below 0.
func (s *script) leave(i, state int) {
	for {
		w := s.load(spotOf(chart.Status, i))
		to := state
		if to < 0 {
			to = stateIn(w)
		}
		if s.swap(spotOf(chart.Status, i), w, w&^(stateMask|busyBit)|stateOf(to)) {
			return
		}
	}
}

// step asks for all that is told ahead of the step and behind it, as to tell
// is no access.
func step(t *testing.T, x *Write, m *store.Memory, want store.Touch) {
	t.Helper()
	count := m.Count()
	if x.Done() {
		t.Errorf("P13.1: it is Done ahead of %+v", want)
	}
	if x.Error() != api.OK {
		t.Errorf("P13.2: it tells %d ahead of %+v", x.Error(), want)
	}
	x.Step(m)
	x.Done()
	x.Error()
	if m.Count() != count+1 || m.Last() != want {
		t.Errorf("P13.1: %d accesses, not 1, the last %+v, not %+v", m.Count()-count, m.Last(), want)
	}
}

// done asks that it is, and tells that always, and that Steps do nothing from
// then on.
func done(t *testing.T, x *Write, m *store.Memory, e api.Errno, want []uint64) {
	t.Helper()
	count := m.Count()
	for range 3 {
		if !x.Done() {
			t.Error("P13.1: it is not Done")
		}
		if x.Error() != e {
			t.Errorf("P13.2: it tells %d, not %d", x.Error(), e)
		}
		x.Step(m)
	}
	if m.Count() != count {
		t.Error("P13.1: a step of one that is Done was an access")
	}
	if !slices.Equal(m.Cells(), want) {
		t.Errorf("P13.1: the words are %d, not %d", m.Cells(), want)
	}
}

// oneWrite holds each step of a write against the script, from its beginning to
// beyond its end, and tells how many there were and what it told.
func oneWrite(t *testing.T, c api.Config, list []uint64, x asked, jolts ...jolt) (int, api.Errno) {
	t.Helper()
	s := script{c: c, cells: slices.Clone(list), jolts: jolts}
	e := s.write(x)
	m, w := made(t, c, list), New(c, x.h, x.key)
	for n, want := range s.list {
		for _, j := range jolts {
			if j.ahead == n {
				m.Store(j.spot, j.word)
			}
		}
		step(t, w, m, want)
	}
	done(t, w, m, e, s.cells)
	if t.Failed() {
		t.Fatalf("P13.1: of %+v over %d in %+v, with %+v", x, list, c, jolts)
	}
	return len(s.list), e
}
