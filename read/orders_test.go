package read

import (
	"slices"
	"testing"

	"umpire/api"
	"umpire/chart"
	"umpire/status"
	"umpire/store"
)

// player is one of those who step over one world, one access each time. It
// tells whether it was not done.
type player func(m *store.Memory) bool

// stage is a world, those who play in it, and what is asked at each moment and
// at each end.
type stage struct {
	m       *store.Memory
	players []player
	moment  func() bool
	end     func() bool
}

func reads(r *Read) player {
	return func(m *store.Memory) bool {
		if r.Done() {
			return false
		}
		r.Step(m)
		return true
	}
}

// stepped is a read that has done its first steps already.
func stepped(m *store.Memory, c api.Config, x asked, steps int) *Read {
	r := New(c, x.h, x.key)
	for range steps {
		r.Step(m)
	}
	return r
}

// The steps of one that commits.
const (
	judging = iota
	promising
	numbering
	seeing
	noting
	ended
)

// commits takes a slot's transaction to its end by looks and swaps, as one who
// commits it does: with conflicts of both sides it is aborted. Where a swap is
// lost it looks anew.
func commits(slot int, number uint64) player {
	spot := spotOf(chart.Status, slot)
	at, seen := judging, uint64(0)
	move := func(m *store.Memory, state, next int) {
		if !m.Swap(spot, seen, seen&^stateMask|stateOf(state)) {
			next = at - 1
		}
		at = next
	}
	return func(m *store.Memory) bool {
		switch at {
		case judging, seeing:
			seen = m.Load(spot)
			at++
		case promising:
			if bothSides(seen) {
				move(m, status.Aborted, ended)
			} else {
				move(m, status.Committing, numbering)
			}
		case numbering:
			m.Swap(spotOf(chart.Number, slot), 0, number)
			at = seeing
		case noting:
			move(m, status.Committed, ended)
		default:
			return false
		}
		return true
	}
}

func bothSides(word uint64) bool { return word&outMask != 0 && word&inMask != 0 }

// played has the players step in that order, from the start, as machines can't
// be copied.
func played(order []int, start func() stage) stage {
	s := start()
	for _, i := range order {
		s.players[i](s.m)
	}
	return s
}

// each goes on with every order of the players' steps, and tells how many there
// were.
func each(t *testing.T, order []int, start func() stage) int {
	t.Helper()
	if len(order) > 60 {
		t.Fatalf("P12.1: %d never ends", order)
	}
	s := played(order, start)
	if !s.moment() {
		t.Fatalf("P12.3: behind %d the words are %d", order, s.m.Cells())
	}
	many := 0
	for i := range s.players {
		if next := played(order, start); next.players[i](next.m) {
			many += each(t, append(slices.Clone(order), i), start)
		}
	}
	if many > 0 {
		return many
	}
	if !s.end() {
		t.Fatalf("P12.3: at the end of %d the words are %d", order, s.m.Cells())
	}
	return 1
}

func always() bool { return true }

func (s *stage) status(slot int) uint64 { return s.m.Load(spotOf(chart.Status, slot)) }

// TestTwoRead: two of one key that a third one writes, in every order: no mark
// and no conflict is lost.
func TestTwoRead(t *testing.T) {
	c := worldOf(3)
	many := each(t, nil, func() stage {
		s := stage{m: made(t, c, words(c, 0, writer(2), other{stateOf(status.Active), 0}, other{stateOf(status.Active), 0})), moment: always}
		a, b := stepped(s.m, c, asked{1, 0}, 3), stepped(s.m, c, asked{2, 0}, 3)
		s.players = []player{reads(a), reads(b)}
		s.end = func() bool {
			return a.Error() == api.OK && b.Error() == api.OK &&
				s.m.Load(spotOf(chart.Key, 0)) == reader(0)|reader(1)|writer(2) &&
				s.status(0) == stateOf(status.Active)|out(2) &&
				s.status(1) == stateOf(status.Active)|out(2) &&
				s.status(2) == stateOf(status.Active)|in(0)|in(1)
		}
		return s
	})
	if many < 12870 {
		t.Errorf("P12.3: there were %d orders", many)
	}
}

// TestAcross: two read what the other one writes: both have conflicts of both
// sides behind that, in every order.
func TestAcross(t *testing.T) {
	c := worldOf(2)
	many := each(t, nil, func() stage {
		s := stage{m: made(t, c, words(c, 0, writer(0)|writer(1), other{stateOf(status.Active), 0})), moment: always}
		a, b := stepped(s.m, c, asked{1, 0}, 4), stepped(s.m, c, asked{2, 1}, 4)
		s.players = []player{reads(a), reads(b)}
		s.end = func() bool {
			return a.Error() == api.OK && b.Error() == api.OK &&
				s.status(0) == stateOf(status.Active)|out(1)|in(1) &&
				s.status(1) == stateOf(status.Active)|out(0)|in(0)
		}
		return s
	})
	if many < 3432 {
		t.Errorf("P12.3: there were %d orders", many)
	}
}

// TestTwoCallsOfOne: while one goes on the other one is told so, and has
// changed nothing.
func TestTwoCallsOfOne(t *testing.T) {
	c := worldOf(2)
	told := map[[2]api.Errno]int{}
	each(t, nil, func() stage {
		s := stage{m: made(t, c, words(c, 0, 0, other{stateOf(status.Active), 0})), moment: always}
		a, b := New(c, 1, 0), New(c, 1, 1)
		s.players = []player{reads(a), reads(b)}
		s.end = func() bool {
			e := [2]api.Errno{a.Error(), b.Error()}
			told[e]++
			for key, fault := range e {
				want := uint64(0)
				if fault == api.OK {
					want = reader(0)
				}
				if s.m.Load(spotOf(chart.Key, key)) != want {
					return false
				}
			}
			return s.status(0) == stateOf(status.Active)
		}
		return s
	})
	if len(told) != 3 || told[[2]api.Errno{}] == 0 || told[[2]api.Errno{0, api.ErrBusy}] == 0 || told[[2]api.Errno{api.ErrBusy, 0}] == 0 {
		t.Errorf("P12.1: they told %d", told)
	}
}

// TestReadsWhatIsCommitted: the one that writes the key is committed meanwhile:
// what is promised has not conflicts of both sides, and what goes on with the
// reader has the conflict, or the reader is aborted.
func TestReadsWhatIsCommitted(t *testing.T) {
	c := worldOf(3)
	for _, x := range []struct {
		word  uint64
		fails bool // in some orders
	}{
		{stateOf(status.Active), false},
		{stateOf(status.Active) | in(2), false},
		{stateOf(status.Active) | inPast, false},
		{stateOf(status.Active) | out(2), true},
		{stateOf(status.Active) | outPast, true},
		{stateOf(status.Active) | out(0) | in(0), false},
	} {
		told := map[api.Errno]int{}
		each(t, nil, func() stage {
			s := stage{m: made(t, c, words(c, 0, writer(1), other{x.word, 0}, other{stateOf(status.Active), 0}))}
			r := New(c, 1, 0)
			s.players = []player{reads(r), commits(1, now+1)}
			s.moment = func() bool {
				w := s.status(1)
				promised := stateIn(w) == status.Committing || stateIn(w) == status.Committed
				return !promised || !bothSides(w)
			}
			s.end = func() bool {
				told[r.Error()]++
				mine, yours := bothEnds(s.m, 0, 1)
				switch {
				case r.Error() == api.ErrFail:
					return stateIn(s.status(0)) == status.Aborted && !mine && !yours && stateIn(s.status(1)) == status.Committed
				case stateIn(s.status(1)) == status.Committed:
					return mine && yours
				}
				return s.status(0)&^0xfff == stateOf(status.Active) && (mine == yours || x.word&in(0) != 0)
			}
			return s
		})
		if told[api.OK] == 0 || (told[api.ErrFail] > 0) != x.fails || len(told) > 2 {
			t.Errorf("P12.3: over %d they told %d", x.word, told)
		}
	}
}

// TestMarksMeet: one that marks the key as its writer at the same time: it finds
// the reader's mark, or the reader lays the conflict.
func TestMarksMeet(t *testing.T) {
	c := worldOf(2)
	sights := map[[2]bool]int{}
	each(t, nil, func() stage {
		s := stage{m: made(t, c, words(c, 0, 0, other{stateOf(status.Active), 0})), moment: always}
		r := New(c, 1, 0)
		at, seen := 0, uint64(0)
		s.players = []player{reads(r), func(m *store.Memory) bool {
			switch at {
			case 0:
				seen = m.Load(spotOf(chart.Key, 0))
				at = 1
			case 1:
				at = 0
				if m.Swap(spotOf(chart.Key, 0), seen, seen|writer(1)) {
					at = 2
				}
			default:
				return false
			}
			return true
		}}
		s.end = func() bool {
			mine, yours := bothEnds(s.m, 0, 1)
			found := seen&reader(0) != 0
			sights[[2]bool{mine, found}]++
			return r.Error() == api.OK && mine == yours && (mine || found) && s.m.Load(spotOf(chart.Key, 0)) == reader(0)|writer(1)
		}
		return s
	})
	if sights[[2]bool{true, false}] == 0 || sights[[2]bool{false, true}] == 0 {
		t.Errorf("P12.3: who saw the other one: %v", sights)
	}
}
