package call

import (
	"slices"
	"testing"

	"umpire/api"
	"umpire/chart"
	"umpire/status"
	"umpire/store"
)

var world = api.Config{Threads: 1, Slots: 3, Keys: 2, LastGen: 9, LastSeq: 9}

// active is a memory in which slot 0 has the snapshot 5, and all slots are
// Active.
func active(t *testing.T) *store.Memory {
	t.Helper()
	m, e := store.New(world)
	if e != api.OK {
		t.Fatal(e)
	}
	for slot := range world.Slots {
		m.Store(statusOf(slot), status.Move(0, status.Active, false))
	}
	m.Store(chart.Spot{Kind: chart.Snapshot, Of: 0}, 5)
	return m
}

func statusOf(slot int) chart.Spot { return chart.Spot{Kind: chart.Status, Of: slot} }

// steps tells how many there are until it is done.
func steps(t *testing.T, x *Call, m *store.Memory) int {
	t.Helper()
	n := 0
	for ; !x.Done(); n++ {
		if n > 50 || x.Error() != api.OK {
			t.Fatalf("behind %d steps it tells %d", n, x.Error())
		}
		x.Step(m)
	}
	count := m.Count()
	x.Step(m)
	if m.Count() != count {
		t.Error("a step of one that is done was an access")
	}
	return n
}

// TestOwnSteps: they come behind the snapshot, in the order in which the owner
// says so, and an end has its state and error.
func TestOwnSteps(t *testing.T) {
	m := active(t)
	var x *Call
	var since []uint64
	second := func(m *store.Memory) {
		since = append(since, x.Since(), m.Load(x.Spot()))
		x.End(status.Aborted, api.ErrClash)
	}
	first := func(m *store.Memory) {
		m.Store(x.Spot(), 7)
		x.Then(second)
	}
	x = New(world, 1, 1, first)
	if n := steps(t, x, m); n != 7 || x.Error() != api.ErrClash || x.Slot() != 0 || !slices.Equal(since, []uint64{5, 7}) {
		t.Errorf("%d steps, it tells %d, and had seen %d", n, x.Error(), since)
	}
	if x.Spot() != (chart.Spot{Kind: chart.Key, Of: 1}) || m.Load(statusOf(0)) != status.Move(0, status.Aborted, false) {
		t.Errorf("of the key at %+v it left the words %d", x.Spot(), m.Cells())
	}
}

// TestLay: of both sides, each end of each conflict; without others it leaves.
func TestLay(t *testing.T) {
	own := status.Move(0, status.Active, false)
	for _, side := range []int{status.Out, status.In} {
		for _, others := range [][]int{nil, {1}, {2}, {1, 2}} {
			m := active(t)
			var x *Call
			x = New(world, 1, 0, func(m *store.Memory) {
				m.Load(x.Spot())
				x.Lay(side, others)
			})
			n, want := steps(t, x, m), own
			for _, other := range others {
				want = status.With(want, 1-side, other)
				if m.Load(statusOf(other)) != status.With(own, side, 0) {
					t.Errorf("side %d of %d: the words are %d", side, others, m.Cells())
				}
			}
			if n != 6+4*len(others) || x.Error() != api.OK || m.Load(statusOf(0)) != want {
				t.Errorf("side %d of %d: %d steps, it tells %d, the words are %d", side, others, n, x.Error(), m.Cells())
			}
		}
	}
}

func TestNoOwnSteps(t *testing.T) {
	never := func(*store.Memory) { t.Error("the owner's step came") }
	for _, x := range []struct {
		h   uint64
		key int
		e   api.Errno
		n   int
	}{{0, 2, api.ErrKey, 0}, {1, -1, api.ErrKey, 0}, {0, 1, api.ErrStale, 0}, {4, 1, api.ErrStale, 0}, {17, 1, api.ErrStale, 1}} {
		c := New(world, x.h, x.key, never)
		if n := steps(t, c, active(t)); n != x.n || c.Error() != x.e {
			t.Errorf("of %+v it told %d, behind %d steps", x, c.Error(), n)
		}
	}
}

func TestOneByOne(t *testing.T) {
	given := []string{"a", "b", "c"}
	next := OneByOne(given)
	for _, want := range append(slices.Clone(given), "", "") {
		if got, left := next(); got != want || left != (want != "") {
			t.Errorf("%q, %t, not %q", got, left, want)
		}
	}
	if _, left := OneByOne[int](nil)(); left {
		t.Error("one of none is left")
	}
	if !slices.Equal(given, []string{"a", "b", "c"}) {
		t.Errorf("what was given is %q", given)
	}
}
