// Package call holds what read (layer 12) and write (layer 13) do alike: how a
// call of a transaction for a key begins, lays its conflicts, and ends.
package call

import (
	"umpire/api"
	"umpire/chart"
	"umpire/gate"
	"umpire/join"
	"umpire/status"
	"umpire/store"
	"umpire/ticket"
)

// Call is a machine, some of whose steps are its owner's: each of these says,
// by Then, Lay or End, what comes next.
type Call struct {
	slot, key int
	since     uint64                // its snapshot
	first     func(m *store.Memory) // the owner's first step
	side      int                   // of the others, on which it is to be
	others    func() (int, bool)    // the next one each time, as long as one is left
	other     int                   // the one to whom a conflict is laid
	entering  *gate.Enter
	joining   *join.Join
	owning    *join.Own
	leaving   *gate.Leave
	next      func(m *store.Memory) // none, if it is done
	fault     api.Errno             // what it tells at its end
}

// New is one of a world of c; first comes behind the snapshot.
func New(c api.Config, h uint64, key int, first func(m *store.Memory)) *Call {
	if key < 0 || key >= c.Keys {
		return &Call{fault: api.ErrKey}
	}
	slot, _, ok := ticket.Of(h, c.Slots)
	if !ok {
		return &Call{fault: api.ErrStale}
	}
	x := &Call{slot: slot, key: key, first: first, entering: gate.New(h, status.Active)}
	x.next = x.enter
	return x
}

func (x *Call) Step(m *store.Memory) {
	if !x.Done() {
		x.next(m)
	}
}

func (x *Call) Done() bool { return x.next == nil }

// Error tells nothing ahead of the end, though it may be known by then.
func (x *Call) Error() api.Errno {
	if !x.Done() {
		return api.OK
	}
	return x.fault
}

func (x *Call) Slot() int { return x.slot }

// Since is its snapshot, once the owner's first step is due.
func (x *Call) Since() uint64 { return x.since }

// Spot is that of the key.
func (x *Call) Spot() chart.Spot { return chart.Spot{Kind: chart.Key, Of: x.key} }

// Then has a step of the owner come next.
func (x *Call) Then(step func(m *store.Memory)) { x.next = step }

// Lay has it put on that side of each of the others that goes on with it, and
// these on its own other side; then it leaves. If one may not have that, it is
// aborted.
func (x *Call) Lay(side int, others []int) {
	x.side = side
	x.others = OneByOne(others)
	x.another()
}

// End leaves with that state, and has the error told behind that.
func (x *Call) End(state int, fault api.Errno) {
	x.leaving = gate.NewLeave(x.slot, state)
	x.fault = fault
	x.next = x.leave
}

func (x *Call) enter(m *store.Memory) {
	x.entering.Step(m)
	if !x.entering.Done(m) {
		return
	}
	x.fault = x.entering.Error(m)
	if x.fault != api.OK {
		x.next = nil
		return
	}
	x.next = x.snapshot
}

func (x *Call) snapshot(m *store.Memory) {
	x.since = m.Load(chart.Spot{Kind: chart.Snapshot, Of: x.slot})
	x.next = x.first
}

func (x *Call) another() {
	other, left := x.others()
	if !left {
		x.End(gate.Stay, api.OK)
		return
	}
	x.other = other
	x.joining = join.New(other, x.side, x.slot, x.since)
	x.next = x.join
}

func (x *Call) join(m *store.Memory) {
	x.joining.Step(m)
	switch x.joining.Result() {
	case join.Laid:
		x.owning = join.NewOwn(x.slot, opposite(x.side), x.other)
		x.next = x.own
	case join.None:
		x.another()
	case join.Fail:
		x.End(status.Aborted, api.ErrFail)
	}
}

func (x *Call) own(m *store.Memory) {
	x.owning.Step(m)
	if x.owning.Done() {
		x.another()
	}
}

func (x *Call) leave(m *store.Memory) {
	x.leaving.Step(m)
	if x.leaving.Done() {
		x.next = nil
	}
}

func opposite(side int) int { return status.In + status.Out - side }

// OneByOne tells the next one each time, and false behind the last one. It
// keeps the list: that must not be written into.
func OneByOne[T any](list []T) func() (T, bool) {
	return func() (T, bool) {
		if len(list) == 0 {
			var none T
			return none, false
		}
		first := list[0]
		list = list[1:]
		return first, true
	}
}
