package join

import (
	"slices"
	"testing"

	"umpire/chart"
	"umpire/status"
	"umpire/store"
)

// mover takes the transaction of slot 0 to its end, by looks and swaps, as one
// who commits it does: with conflicts of both sides it is aborted.
type mover struct {
	stage int
	seen  uint64
}

// The stages of a mover.
const (
	judging = iota
	promising
	numbering
	seeing
	noting
	ended
)

// number is that of the commit that a mover makes.
const number = 6

func (v *mover) step(m *store.Memory) bool {
	spot := spotOf(chart.Status, 0)
	switch v.stage {
	case judging, seeing:
		v.seen = m.Load(spot)
		v.stage++
	case promising:
		to, next := status.Committing, numbering
		if both(v.seen) {
			to, next = status.Aborted, ended
		}
		v.turn(m.Swap(spot, v.seen, v.seen&^stateMask|stateOf(to)), next, judging)
	case numbering:
		m.Swap(spotOf(chart.Number, 0), 0, number)
		v.stage = seeing
	case noting:
		v.turn(m.Swap(spot, v.seen, v.seen&^stateMask|stateOf(status.Committed)), ended, seeing)
	default:
		return false
	}
	return true
}

func (v *mover) turn(told bool, next, again int) {
	v.stage = again
	if told {
		v.stage = next
	}
}

// scene is a world of one slot, and those that step in it: as they are values,
// a copy of it goes on by itself.
type scene struct {
	list  []uint64
	joins []Join
	owns  []Own
	move  mover
}

func (s scene) copied() scene {
	s.list, s.joins, s.owns = slices.Clone(s.list), slices.Clone(s.joins), slices.Clone(s.owns)
	return s
}

// step tells whether the one of that number still had one to do.
func (s *scene) step(t *testing.T, i int) bool {
	m, went := made(t, worldOf(1), s.list), false
	switch joins, owns := len(s.joins), len(s.owns); {
	case i < joins:
		went = s.joins[i].Result() == Going
		s.joins[i].Step(m)
	case i < joins+owns:
		went = !s.owns[i-joins].Done()
		s.owns[i-joins].Step(m)
	default:
		went = s.move.step(m)
	}
	s.list = m.Cells()
	return went
}

func (s scene) status() uint64 { return s.list[chart.Cell(worldOf(1), spotOf(chart.Status, 0))] }

func both(word uint64) bool { return word&outMask != 0 && word&inMask != 0 }

// promised is what never has conflicts of both sides.
func promised(word uint64) bool {
	return stateIn(word) == status.Committing || stateIn(word) == status.Committed
}

// play goes through all orders of all steps, and asks of each moment and of
// each end.
func (s scene) play(t *testing.T, moment, end func(scene)) {
	t.Helper()
	over := true
	for i := range len(s.joins) + len(s.owns) + 1 {
		next := s.copied()
		if next.step(t, i) {
			over = false
			moment(next)
			next.play(t, moment, end)
		}
	}
	if over {
		end(s)
	}
}

// sceneOf is one of a status, with Joins of the slots from 0 on, each to a
// side, by a snapshot.
func sceneOf(word, snapshot uint64, sides ...int) scene {
	s := scene{list: words(worldOf(1), asked{word: word})}
	for by, side := range sides {
		s.joins = append(s.joins, *New(0, side, by, snapshot))
	}
	return s
}

// TestNeverBothSides: whoever lays while one commits, in whatever order, what
// is promised has not conflicts of both sides, and what was laid is there. Each
// scene has orders that come to each of its results.
func TestNeverBothSides(t *testing.T) {
	for _, x := range []struct {
		word     uint64
		snapshot uint64
		sides    []int
		results  []int
	}{
		{stateOf(status.Active), 5, []int{status.In, status.Out}, []int{Laid, Fail}},
		{stateOf(status.Active), 6, []int{status.In, status.Out}, []int{None, Laid, Fail}},
		{stateOf(status.Active) | 1<<11, 5, []int{status.In, status.Out}, []int{None, Laid, Fail}},
		{stateOf(status.Active) | outPast, 5, []int{status.In, status.In}, []int{None, Laid, Fail}},
		{stateOf(status.Active) | inPast, 6, []int{status.Out, status.In}, []int{None, Laid, Fail}},
	} {
		var came []int
		sceneOf(x.word, x.snapshot, x.sides...).play(t, func(s scene) {
			if promised(s.status()) && both(s.status()) {
				t.Fatalf("P11.3: %+v: the status is %d", x, s.status())
			}
		}, func(s scene) {
			want := x.word & (outMask | inMask)
			for by, side := range x.sides {
				result := s.joins[by].Result()
				if !slices.Contains(came, result) {
					came = append(came, result)
				}
				if result == Laid {
					want |= bitOf(side, by)
				}
			}
			if got := s.status() & (outMask | inMask); got != want {
				t.Fatalf("P11.3: %+v: %d is on both sides, not %d", x, got, want)
			}
		})
		slices.Sort(came)
		if !slices.Equal(came, x.results) {
			t.Errorf("P11.3: %+v: the results are %d", x, came)
		}
	}
}

// TestNothingIsLost: Joins of both sides and an Own of one status that stays
// Active: what each has laid is there from then on.
func TestNothingIsLost(t *testing.T) {
	s := sceneOf(stateOf(status.Active)|1<<23, 5, status.In, status.Out)
	s.owns = []Own{*NewOwn(0, status.Out, 5)}
	s.move.stage = ended
	s.play(t, func(now scene) {
		want := uint64(1 << 23)
		for by, side := range []int{status.In, status.Out} {
			if now.joins[by].Result() == Laid {
				want |= bitOf(side, by)
			}
		}
		if now.owns[0].Done() {
			want |= 1 << 5
		}
		if got := now.status(); got != want|stateOf(status.Active) {
			t.Fatalf("P11.3: the status is %d, not %d", got, want|stateOf(status.Active))
		}
	}, func(now scene) {
		if want := stateOf(status.Active) | 1<<23 | 1<<12 | 1<<1 | 1<<5; now.status() != uint64(want) {
			t.Fatalf("P11.3: the status is %d, not %d", now.status(), want)
		}
	})
}

// TestOneLaysBoth: two that lay one and the same conflict lay it once, and both
// are told that it is there.
func TestOneLaysBoth(t *testing.T) {
	s := sceneOf(stateOf(status.Committing), 5, status.In)
	s.joins = append(s.joins, s.joins[0])
	s.move.stage = numbering
	s.play(t, func(scene) {}, func(now scene) {
		if now.joins[0].Result() != Laid || now.joins[1].Result() != Laid || now.status() != stateOf(status.Committed)|4096 {
			t.Fatalf("P11.3: the results are %d and %d, the status is %d", now.joins[0].Result(), now.joins[1].Result(), now.status())
		}
	})
}
