package write

import (
	"slices"
	"testing"

	"umpire/api"
	"umpire/chart"
	"umpire/read"
	"umpire/status"
	"umpire/store"
)

// player is one of those who step over one world, one access each time. It
// tells whether it was not done.
type player func(m *store.Memory) bool

// stage is a world, those who play in it, and what is asked at each moment and
// at each end.
type stage struct {
	m       *store.Memory
	players []player
	moment  func() bool
	end     func() bool
}

// machine is a read or a write.
type machine interface {
	Step(m *store.Memory)
	Done() bool
	Error() api.Errno
}

func plays(x machine) player {
	return func(m *store.Memory) bool {
		if x.Done() {
			return false
		}
		x.Step(m)
		return true
	}
}

// stepped is one that has done its first steps already.
func stepped[M machine](m *store.Memory, x M, steps int) M {
	for range steps {
		x.Step(m)
	}
	return x
}

// The steps of one that commits.
const (
	judging = iota
	promising
	numbering
	seeing
	noting
	ended
)

// commits takes a slot's transaction to its end by looks and swaps, as one who
// commits it does: with conflicts of both sides it is aborted. Where a swap is
// lost it looks anew.
func commits(slot int, number uint64) player {
	spot := spotOf(chart.Status, slot)
	at, seen := judging, uint64(0)
	move := func(m *store.Memory, state, next int) {
		if !m.Swap(spot, seen, seen&^stateMask|stateOf(state)) {
			next = at - 1
		}
		at = next
	}
	return func(m *store.Memory) bool {
		switch at {
		case judging, seeing:
			seen = m.Load(spot)
			at++
		case promising:
			if bothSides(seen) {
				move(m, status.Aborted, ended)
			} else {
				move(m, status.Committing, numbering)
			}
		case numbering:
			m.Swap(spotOf(chart.Number, slot), 0, number)
			at = seeing
		case noting:
			move(m, status.Committed, ended)
		default:
			return false
		}
		return true
	}
}

// aborts takes a slot's transaction to its end at once.
func aborts(slot int) player {
	over := false
	return func(m *store.Memory) bool {
		if over {
			return false
		}
		over = true
		m.Store(spotOf(chart.Status, slot), stateOf(status.Aborted))
		return true
	}
}

func bothSides(word uint64) bool { return word&outMask != 0 && word&inMask != 0 }

// played has the players step in that order, from the start, as machines can't
// be copied.
func played(order []int, start func() stage) stage {
	s := start()
	for _, i := range order {
		s.players[i](s.m)
	}
	return s
}

// each goes on with every order of the players' steps, and tells how many there
// were.
func each(t *testing.T, order []int, start func() stage) int {
	t.Helper()
	if len(order) > 60 {
		t.Fatalf("P13.1: %d never ends", order)
	}
	s := played(order, start)
	if !s.moment() {
		t.Fatalf("P13.3: behind %d the words are %d", order, s.m.Cells())
	}
	many := 0
	for i := range s.players {
		if next := played(order, start); next.players[i](next.m) {
			many += each(t, append(slices.Clone(order), i), start)
		}
	}
	if many > 0 {
		return many
	}
	if !s.end() {
		t.Fatalf("P13.3: at the end of %d the words are %d", order, s.m.Cells())
	}
	return 1
}

func always() bool { return true }

func (s *stage) status(slot int) uint64 { return s.m.Load(spotOf(chart.Status, slot)) }

// writers are the slots that write the key, and are not aborted.
func (s *stage) writers(key int) []int {
	var list []int
	w := s.m.Load(spotOf(chart.Key, key))
	for slot := range api.MaxSlots {
		if w&writer(slot) != 0 && stateIn(s.status(slot)) != status.Aborted {
			list = append(list, slot)
		}
	}
	return list
}

func (s *stage) oneWriter() bool { return len(s.writers(0)) <= 1 }

var active = other{stateOf(status.Active), 0}

// TestTwoWrite: one key, in every order: one of both is told that they clash,
// and the other one writes it.
func TestTwoWrite(t *testing.T) {
	c := worldOf(2)
	told := map[[2]api.Errno]int{}
	many := each(t, nil, func() stage {
		s := stage{m: made(t, c, words(c, 0, 0, active))}
		a, b := New(c, 1, 0), New(c, 2, 0)
		s.players = []player{plays(a), plays(b)}
		s.moment = s.oneWriter
		s.end = func() bool {
			e := [2]api.Errno{a.Error(), b.Error()}
			told[e]++
			won := slices.Index(e[:], api.OK)
			return won >= 0 && e[1-won] == api.ErrClash && slices.Equal(s.writers(0), []int{won}) &&
				s.m.Load(spotOf(chart.Key, 0)) == writer(won) &&
				s.status(won) == stateOf(status.Active) && s.status(1-won) == stateOf(status.Aborted)
		}
		return s
	})
	if many < 3432 || len(told) != 2 {
		t.Errorf("P13.3: there were %d orders, and they told %d", many, told)
	}
}

// TestTwoWriteBehindOne: as two of them, where a third one that writes the key
// is aborted meanwhile: one may have it then.
func TestTwoWriteBehindOne(t *testing.T) {
	c := worldOf(3)
	told := map[[2]api.Errno]int{}
	each(t, nil, func() stage {
		s := stage{m: made(t, c, words(c, 0, writer(2), active, active))}
		a, b := stepped(s.m, New(c, 1, 0), 3), stepped(s.m, New(c, 2, 0), 3)
		s.players = []player{plays(a), plays(b), aborts(2)}
		s.moment = s.oneWriter
		s.end = func() bool {
			e := [2]api.Errno{a.Error(), b.Error()}
			told[e]++
			won := slices.Index(e[:], api.OK)
			if won < 0 {
				return len(s.writers(0)) == 0 && s.m.Load(spotOf(chart.Key, 0)) == writer(2)
			}
			return slices.Equal(s.writers(0), []int{won}) && s.m.Load(spotOf(chart.Key, 0)) == writer(won)|writer(2)
		}
		return s
	})
	clash := api.ErrClash
	if len(told) != 3 || told[[2]api.Errno{0, clash}] == 0 || told[[2]api.Errno{clash, 0}] == 0 || told[[2]api.Errno{clash, clash}] == 0 {
		t.Errorf("P13.3: they told %d", told)
	}
}

// TestAcross: two write what the other one has read: both have conflicts of
// both sides behind that, in every order.
func TestAcross(t *testing.T) {
	c := worldOf(2)
	many := each(t, nil, func() stage {
		s := stage{m: made(t, c, words(c, 0, reader(0)|reader(1), active)), moment: always}
		a, b := stepped(s.m, New(c, 1, 0), 4), stepped(s.m, New(c, 2, 1), 4)
		s.players = []player{plays(a), plays(b)}
		s.end = func() bool {
			return a.Error() == api.OK && b.Error() == api.OK &&
				s.status(0) == stateOf(status.Active)|out(1)|in(1) &&
				s.status(1) == stateOf(status.Active)|out(0)|in(0)
		}
		return s
	})
	if many < 3432 {
		t.Errorf("P13.3: there were %d orders", many)
	}
}

// TestReadAndWrite: of one key, by two, in every order: who marks it second
// lays both ends of the conflict, and the other one none.
func TestReadAndWrite(t *testing.T) {
	c := worldOf(2)
	second := map[int]int{}
	many := each(t, nil, func() stage {
		s := stage{m: made(t, c, words(c, 1, 0, active)), moment: always}
		r, w := read.New(c, 1, 0), New(c, 2, 0)
		var marks, lays []int
		for i, play := range []player{plays(r), plays(w)} {
			s.players = append(s.players, func(m *store.Memory) bool {
				goes := play(m)
				last := m.Last()
				switch {
				case !goes || last.Kind != store.Swaps || !last.Done:
				case last.Spot.Kind == chart.Key:
					marks = append(marks, i)
				case (last.Old^last.New)&(outMask|inMask) != 0:
					lays = append(lays, i)
				}
				return goes
			})
		}
		s.end = func() bool {
			if len(marks) != 2 {
				return false
			}
			second[marks[1]]++
			return r.Error() == api.OK && w.Error() == api.OK &&
				slices.Equal(lays, []int{marks[1], marks[1]}) &&
				s.status(0) == stateOf(status.Active)|out(1) &&
				s.status(1) == stateOf(status.Active)|in(0) &&
				s.m.Load(spotOf(chart.Key, 0)) == reader(0)|writer(1)
		}
		return s
	})
	if many < 30000 || second[0] == 0 || second[1] == 0 {
		t.Errorf("P13.3: there were %d orders; who came second: %d", many, second)
	}
}

// TestTwoCallsOfOne: while one goes on the other one is told so, and has
// changed nothing.
func TestTwoCallsOfOne(t *testing.T) {
	c := worldOf(2)
	told := map[[2]api.Errno]int{}
	each(t, nil, func() stage {
		s := stage{m: made(t, c, words(c, 0, 0, active)), moment: always}
		a, b := New(c, 1, 0), New(c, 1, 1)
		s.players = []player{plays(a), plays(b)}
		s.end = func() bool {
			e := [2]api.Errno{a.Error(), b.Error()}
			told[e]++
			for key, fault := range e {
				want := uint64(0)
				if fault == api.OK {
					want = writer(0)
				}
				if s.m.Load(spotOf(chart.Key, key)) != want {
					return false
				}
			}
			return s.status(0) == stateOf(status.Active)
		}
		return s
	})
	if len(told) != 3 || told[[2]api.Errno{}] == 0 || told[[2]api.Errno{0, api.ErrBusy}] == 0 || told[[2]api.Errno{api.ErrBusy, 0}] == 0 {
		t.Errorf("P13.1: they told %d", told)
	}
}

// TestRivalEnds: one that writes the key is committed meanwhile, and goes on
// with the other one by its number, or not; or it is aborted meanwhile: then
// the key may be had.
func TestRivalEnds(t *testing.T) {
	c := worldOf(2)
	for _, x := range []struct {
		ends func() player
		had  bool // in some orders
	}{
		{func() player { return commits(1, now+1) }, false},
		{func() player { return commits(1, now) }, true},
		{func() player { return aborts(1) }, true},
	} {
		told := map[api.Errno]int{}
		each(t, nil, func() stage {
			s := stage{m: made(t, c, words(c, 0, writer(1), active)), moment: always}
			w := New(c, 1, 0)
			s.players = []player{plays(w), x.ends()}
			s.end = func() bool {
				told[w.Error()]++
				mine := s.m.Load(spotOf(chart.Key, 0))&writer(0) != 0
				state := stateIn(s.status(0))
				if mine {
					return w.Error() == api.OK && state == status.Active
				}
				return w.Error() == api.ErrClash && state == status.Aborted
			}
			return s
		})
		if told[api.ErrClash] == 0 || told[api.OK] > 0 != x.had || len(told) > 2 {
			t.Errorf("P13.3: they told %d, and the key was to be had: %t", told, x.had)
		}
	}
}

// TestReaderEnds: the one that has read the key is committed meanwhile: what is
// promised has not conflicts of both sides, and what goes on with the writer
// has the conflict, or the writer is aborted.
func TestReaderEnds(t *testing.T) {
	c := worldOf(3)
	for _, x := range []struct {
		word  uint64
		fails bool // in some orders
	}{
		{stateOf(status.Active), false},
		{stateOf(status.Active) | out(2), false},
		{stateOf(status.Active) | outPast, false},
		{stateOf(status.Active) | in(2), true},
		{stateOf(status.Active) | inPast, true},
		{stateOf(status.Active) | out(0) | in(0), false},
	} {
		told := map[api.Errno]int{}
		each(t, nil, func() stage {
			s := stage{m: made(t, c, words(c, 0, reader(1), other{x.word, 0}, active))}
			w := New(c, 1, 0)
			s.players = []player{plays(w), commits(1, now+1)}
			s.moment = func() bool {
				word := s.status(1)
				promised := stateIn(word) == status.Committing || stateIn(word) == status.Committed
				return !promised || !bothSides(word)
			}
			s.end = func() bool {
				told[w.Error()]++
				mine, yours := bothEnds(s.m, 0, 1)
				switch {
				case w.Error() == api.ErrFail:
					return stateIn(s.status(0)) == status.Aborted && !mine && !yours && stateIn(s.status(1)) == status.Committed
				case stateIn(s.status(1)) == status.Committed:
					return mine && yours
				}
				return s.status(0)&^(0xfff<<12) == stateOf(status.Active) && (mine == yours || x.word&out(0) != 0)
			}
			return s
		})
		if told[api.OK] == 0 || (told[api.ErrFail] > 0) != x.fails || len(told) > 2 {
			t.Errorf("P13.3: over %d they told %d", x.word, told)
		}
	}
}
