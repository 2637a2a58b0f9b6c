package write

import (
	"math"
	"slices"
	"testing"

	"umpire/api"
	"umpire/chart"
	"umpire/status"
	"umpire/store"
)

// now is the snapshot of those who write here, if no other is said.
const now = 5

// other is what another transaction is like.
type other struct{ word, number uint64 }

// conflicts are what may be on the sides of another one: nothing, one slot,
// all of them, or one that is past. No one here is that of slot 0.
var conflicts = []uint64{
	0, out(2), out(11), in(2), in(11), outPast, inPast,
	out(2) | in(3), out(2) | inPast, outPast | in(2), outPast | inPast,
	inMask, outMask &^ out(0), (outMask | inMask) &^ out(0),
}

// kinds are others of each kind that a write tells apart.
var kinds = []other{
	{stateOf(status.Free), 0},
	{stateOf(status.Beginning), 0},
	{stateOf(status.Active), 0},
	{stateOf(status.Active) | busyBit | inPast, 0},
	{stateOf(status.Active) | out(0), 0},
	{stateOf(status.Committing) | busyBit, 0},
	{stateOf(status.Committing) | in(3), 0},
	{stateOf(status.Committing) | in(3) | out(0), 0},
	{stateOf(status.Committed) | in(3), now},
	{stateOf(status.Committed), now + 1},
	{stateOf(status.Committed) | inPast, now + 1},
	{stateOf(status.Committed), 0},
	{stateOf(status.Aborted), 0},
	{stateOf(status.Dead), now + 1},
	{stateOf(status.Clear), 0},
}

func worldOf(slots int) api.Config {
	return api.Config{Threads: 2, Slots: slots, Keys: 2, LastGen: 9, LastSeq: 9}
}

// words tells as many as the world has cells, no two alike, but for the keys,
// the slots' statuses and numbers, and the snapshot of the one that writes:
// that is Active. The others come rising.
func words(c api.Config, slot int, key uint64, others ...other) []uint64 {
	list := make([]uint64, chart.Len(c))
	for i := range list {
		list[i] = 1000 + 7*uint64(i)
	}
	for k := range c.Keys {
		put(c, list, spotOf(chart.Key, k), key)
	}
	for i := range c.Slots {
		put(c, list, spotOf(chart.Status, i), 0)
	}
	for i, o := range others {
		if i >= slot {
			i++
		}
		put(c, list, spotOf(chart.Status, i), o.word)
		put(c, list, spotOf(chart.Number, i), o.number)
	}
	put(c, list, spotOf(chart.Status, slot), stateOf(status.Active))
	put(c, list, spotOf(chart.Snapshot, slot), now)
	return list
}

// alike are as many others of one kind.
func alike(many int, o other) []other { return slices.Repeat([]other{o}, many) }

// TestExamples: read by an active one, and written by one.
func TestExamples(t *testing.T) {
	c := worldOf(2)
	active := stateOf(status.Active)
	for _, x := range []struct {
		key         uint64
		e           api.Errno
		own, others uint64
		behind      uint64
	}{
		{2, api.OK, active | 8192, active | 1, 4098},
		{8192, api.ErrClash, stateOf(status.Aborted), active, 8192},
	} {
		m := made(t, c, words(c, 0, x.key, other{active, 0}))
		w := New(c, 1, 1)
		for n := 0; n < 20 && !w.Done(); n++ {
			w.Step(m)
		}
		own, others := m.Load(spotOf(chart.Status, 0)), m.Load(spotOf(chart.Status, 1))
		if !w.Done() || w.Error() != x.e || own != x.own || others != x.others || m.Load(spotOf(chart.Key, 1)) != x.behind {
			t.Errorf("P13.1: over %d: Done is %t, Error %d, the words are %d", x.key, w.Done(), w.Error(), m.Cells())
		}
	}
}

// TestAtOnce: a key that there is not comes first, whatever the ticket is; then
// a ticket of no slot of the world.
func TestAtOnce(t *testing.T) {
	for keys := 1; keys <= api.MaxKeys; keys++ {
		for slots := 1; slots <= api.MaxSlots; slots++ {
			c := api.Config{Threads: 1, Slots: slots, Keys: keys, LastGen: 9, LastSeq: 9}
			stale := []uint64{0, 16, 13, 14, 15, 5<<4 | 13, 1<<64 - 1, ticketOf(slots-1, api.MaxGen+1), ticketOf(0, 1<<32), ticketOf(0, 1<<60-1)}
			for slot := slots; slot < api.MaxSlots; slot++ {
				stale = append(stale, ticketOf(slot, 0), ticketOf(slot, 5))
			}
			for _, h := range stale {
				atOnce(t, c, asked{h, 0}, api.ErrStale)
				atOnce(t, c, asked{h, keys - 1}, api.ErrStale)
			}
			for _, key := range []int{math.MinInt, -1 << 32, -1, keys, keys + 1, api.MaxKeys, 1 << 32, math.MaxInt} {
				atOnce(t, c, asked{ticketOf(slots-1, 0), key}, api.ErrKey)
				atOnce(t, c, asked{0, key}, api.ErrKey)
				atOnce(t, c, asked{ticketOf(slots, 0), key}, api.ErrKey)
			}
		}
	}
}

func atOnce(t *testing.T, c api.Config, x asked, e api.Errno) {
	t.Helper()
	list := words(c, 0, 0)
	m, w := made(t, c, list), New(c, x.h, x.key)
	done(t, w, m, e, list)
	if m.Count() != 0 || t.Failed() {
		t.Fatalf("P13.1: %d accesses of %+v in %+v", m.Count(), x, c)
	}
}

// TestNotEntered: whatever speaks against a call is told behind one look, and
// nothing is marked.
func TestNotEntered(t *testing.T) {
	c := worldOf(3)
	for _, x := range []struct {
		word uint64
		e    api.Errno
	}{
		{5*genUnit | stateOf(status.Free), api.ErrStale},
		{5*genUnit | stateOf(status.Beginning) | busyBit, api.ErrStale},
		{4*genUnit | stateOf(status.Active), api.ErrStale},
		{6*genUnit | stateOf(status.Active) | busyBit, api.ErrStale},
		{5*genUnit | stateOf(status.Active) | busyBit, api.ErrBusy},
		{5*genUnit | stateOf(status.Committing) | busyBit, api.ErrBusy},
		{5*genUnit | stateOf(status.Committing), api.ErrState},
		{5*genUnit | stateOf(status.Committed), api.ErrState},
		{5*genUnit | stateOf(status.Aborted), api.ErrState},
		{5*genUnit | stateOf(status.Dead), api.ErrState},
		{5*genUnit | stateOf(status.Clear), api.ErrState},
	} {
		list := words(c, 2, writer(0), other{stateOf(status.Active), 0})
		put(c, list, spotOf(chart.Status, 2), x.word)
		if n, e := oneWrite(t, c, list, asked{ticketOf(2, 5), 1}); n != 1 || e != x.e {
			t.Errorf("P13.1: over %d there were %d accesses, and it told %d, not %d", x.word, n, e, x.e)
		}
	}
}

// TestEachStatusOfItsOwn: of every state and generation, Busy or not, with
// whatever on its sides.
func TestEachStatusOfItsOwn(t *testing.T) {
	c := worldOf(2)
	for n := range 16 * len(conflicts) {
		word := stateOf(n%8) | uint64(n/8%2)*busyBit | conflicts[n/16]
		for _, gen := range []uint64{0, 1, 4, 5, 6, api.MaxGen, api.MaxGen + 1, 5 | 1<<31} {
			for _, bits := range []uint64{0, 3 << 62} { // no world has the last ones
				for _, marks := range []uint64{reader(1), writer(1)} {
					list := words(c, 0, marks, other{stateOf(status.Active), 0})
					put(c, list, spotOf(chart.Status, 0), word|gen*genUnit|bits)
					for _, of := range []uint64{0, 5, api.MaxGen} {
						oneWrite(t, c, list, asked{ticketOf(0, of), 0})
					}
				}
			}
		}
	}
}

// TestEachPlace: each slot of each world, each key, with each mark of each
// slot that the world has.
func TestEachPlace(t *testing.T) {
	for slots := 1; slots <= api.MaxSlots; slots++ {
		c := worldOf(slots)
		c.Keys = 1 + slots%api.MaxKeys
		others := alike(slots-1, other{stateOf(status.Active), 0})
		for slot := range slots {
			all := uint64(1)<<slots - 1
			for _, marks := range []uint64{0, all, all << 12, all<<12 | all, all | writer(slot), reader(slot), writer(slot) | reader(slot)} {
				for key := range c.Keys {
					list := words(c, slot, reader(slots-1))
					put(c, list, spotOf(chart.Key, key), marks)
					oneWrite(t, c, list, asked{ticketOf(slot, 0), key})
					list = words(c, slot, 0, others...)
					put(c, list, spotOf(chart.Key, key), marks)
					oneWrite(t, c, list, asked{ticketOf(slot, 0), key})
				}
			}
			for from := range slots {
				oneWrite(t, c, words(c, slot, writer(from), others...), asked{ticketOf(slot, 0), 0})
				oneWrite(t, c, words(c, slot, reader(from), others...), asked{ticketOf(slot, 0), 0})
			}
		}
	}
}

// TestEachOther: one that reads the key, or writes it, of every state, with
// whatever on its sides, and of numbers about the snapshot; the conflict may be
// there already at either end.
func TestEachOther(t *testing.T) {
	c := worldOf(2)
	for n := range 32 * len(conflicts) {
		word := stateOf(n%8) | uint64(n/8%2)*busyBit | uint64(n/16%2)*out(0) | conflicts[n/32]
		for _, number := range []uint64{0, 1, now - 1, now, now + 1, 1<<64 - 1} {
			for _, own := range []uint64{0, in(1), in(0), out(1), out(0) | outPast | inPast} {
				for _, marks := range []uint64{reader(1), reader(1) | writer(0), writer(1), writer(1) | writer(0), writer(1) | reader(1)} {
					list := words(c, 0, marks, other{word, number})
					put(c, list, spotOf(chart.Status, 0), stateOf(status.Active)|own)
					oneWrite(t, c, list, asked{1, 1})
				}
			}
		}
	}
}

// TestSnapshots: they are of the one that writes, and of no other.
func TestSnapshots(t *testing.T) {
	c := worldOf(3)
	edges := []uint64{0, 1, 2, 5, api.MaxSeq - 1, api.MaxSeq, 1 << 63, 1<<64 - 2, 1<<64 - 1}
	for _, snapshot := range edges {
		for _, number := range edges {
			for _, marks := range []uint64{reader(0) | reader(2), writer(0) | writer(2), writer(0) | reader(2)} {
				list := words(c, 1, marks, other{stateOf(status.Committed), number}, other{stateOf(status.Committed) | inPast, number})
				put(c, list, spotOf(chart.Snapshot, 1), snapshot)
				oneWrite(t, c, list, asked{2, 0})
			}
		}
	}
}

// TestManyOthers: three of all kinds, each of which reads the key, or writes
// it, or both, or neither.
func TestManyOthers(t *testing.T) {
	c := worldOf(4)
	many := len(kinds)
	for n := range many * many * many {
		others := []other{kinds[n%many], kinds[n/many%many], kinds[n/many/many]}
		for marks := range uint64(16) {
			oneWrite(t, c, words(c, 0, marks, others...), asked{1, 0})
			oneWrite(t, c, words(c, 0, marks<<12, others...), asked{1, 0})
			oneWrite(t, c, words(c, 0, marks<<12|0xe&^marks, others...), asked{1, 0})
		}
		for slot := 1; slot < 4; slot++ {
			oneWrite(t, c, words(c, slot, 0xf, others...), asked{ticketOf(slot, 0), 1})
			oneWrite(t, c, words(c, slot, 0xf<<12|0xf, others...), asked{ticketOf(slot, 0), 1})
		}
	}
}

// TestEndsAtTheFirst: one that may have no conflict to it, or one that writes
// the key, ends the write there, and those behind it are not looked at.
func TestEndsAtTheFirst(t *testing.T) {
	c := worldOf(4)
	fails := other{stateOf(status.Committing) | in(3), 0}
	active := other{stateOf(status.Active), 0}
	past := other{stateOf(status.Committed), now}
	gone := other{stateOf(status.Aborted), 0}
	for _, x := range []struct {
		marks  uint64
		others []other
		steps  int
		e      api.Errno
		own    uint64
		key    uint64
	}{
		{0xe, []other{fails, active, fails}, 8, api.ErrFail, 0, 0xe | writer(0)},
		{0xe, []other{active, fails, active}, 12, api.ErrFail, in(1), 0xe | writer(0)},
		{0xe, []other{active, active, fails}, 16, api.ErrFail, in(1) | in(2), 0xe | writer(0)},
		{0xe << 12, []other{active, fails, active}, 7, api.ErrClash, 0, 0xe << 12},
		{0xe << 12, []other{gone, active, gone}, 8, api.ErrClash, 0, 0xe << 12},
		{0xe << 12, []other{past, gone, active}, 10, api.ErrClash, 0, 0xe << 12},
		{0xe<<12 | writer(0) | 0xe, []other{active, active, active}, 7, api.ErrClash, 0, 0xf<<12 | 0xe},
		{writer(3) | 6, []other{active, active, active}, 7, api.ErrClash, 0, writer(3) | 6},
	} {
		list := words(c, 0, x.marks, x.others...)
		n, e := oneWrite(t, c, list, asked{1, 0})
		m, w := made(t, c, list), New(c, 1, 0)
		for range n {
			w.Step(m)
		}
		own, key := m.Load(spotOf(chart.Status, 0)), m.Load(spotOf(chart.Key, 0))
		if n != x.steps || e != x.e || own != stateOf(status.Aborted)|x.own || key != x.key {
			t.Errorf("P13.1: %d steps, not %d, it told %d, its status is %d, the key's word %d", n, x.steps, e, own, key)
		}
	}
}

// TestOddWords: no world has such marks, but a write ends over them: of bits
// that are nobody's, of slots that the world has not, and of all at once.
func TestOddWords(t *testing.T) {
	for _, slots := range []int{1, 2, 5, 11, 12} {
		c := worldOf(slots)
		for _, marks := range []uint64{1 << 24, 1 << 63, 1<<64 - 1, 1<<64 - 1 - writer(0), 0xfff << 12, 0xfff, 0xfff<<24 | writer(11), 0xfff<<24 | reader(11)} {
			for _, o := range kinds {
				for _, bits := range []uint64{0, 1 << 62, 1<<64 - 1<<30} {
					o.word |= bits
					list := words(c, 0, marks, alike(slots-1, o)...)
					oneWrite(t, c, list, asked{1, 1})
				}
			}
		}
	}
}

// TestJolts: others store whatever they may, ahead of any access, once or
// twice: what is judged is what was looked at last, and what they laid stays.
func TestJolts(t *testing.T) {
	c := worldOf(3)
	var spots []jolt
	add := func(s chart.Spot, list ...uint64) {
		for _, word := range list {
			spots = append(spots, jolt{spot: s, word: word})
		}
	}
	active := stateOf(status.Active)
	add(spotOf(chart.Key, 0), 0, writer(0), writer(1), writer(2), reader(1), reader(2), reader(1)|reader(2), reader(1)|reader(0)|writer(0))
	add(spotOf(chart.Status, 0), active, active|out(2), active|in(1)|out(1), active|busyBit, active|busyBit|out(1)|inPast, stateOf(status.Aborted), genUnit|active)
	add(spotOf(chart.Status, 1), active|out(2), stateOf(status.Committing), stateOf(status.Committing)|in(2), stateOf(status.Committed), stateOf(status.Committed)|inPast, stateOf(status.Aborted), 0)
	add(spotOf(chart.Number, 1), 0, now, now+1)
	add(spotOf(chart.Snapshot, 0), now-1, now+1, 0)
	for _, o := range []other{{active, now}, {stateOf(status.Committed), now + 1}, {stateOf(status.Committed), now}, {stateOf(status.Committing) | in(2), 0}} {
		for _, marks := range []uint64{0, reader(1), reader(1) | reader(2), reader(1) | writer(0), writer(1), writer(1) | reader(2)} {
			list := words(c, 0, marks, o, other{active, 0})
			most, _ := oneWrite(t, c, list, asked{1, 0})
			for n := range most * len(spots) {
				first := spots[n%len(spots)]
				first.ahead = n / len(spots)
				oneWrite(t, c, list, asked{1, 0}, first)
				for _, second := range spots {
					for _, behind := range []int{1, 2, 4} {
						second.ahead = first.ahead + behind
						oneWrite(t, c, list, asked{1, 0}, first, second)
					}
				}
			}
		}
	}
}

// TestLosesAgainAndAgain: the swap of the key is lost to each mark of all the
// others, of which those that write it have ended: each time these are asked
// anew, and each of those that read it has the conflict in the end.
func TestLosesAgainAndAgain(t *testing.T) {
	c := worldOf(api.MaxSlots)
	var jolts []jolt
	key, at, steps := uint64(0), 4, 2+1
	for slot := 1; slot < api.MaxSlots; slot++ {
		bit, rivals := reader(slot), (slot-1)/2
		if slot%2 == 0 {
			bit = writer(slot)
		}
		key |= bit
		jolts = append(jolts, jolt{at, spotOf(chart.Key, 0), key})
		steps += 1 + rivals + 1
		at += 1 + slot/2 + 1
	}
	list := words(c, 0, 0, alike(11, other{stateOf(status.Active), 0})...)
	for slot := 2; slot < api.MaxSlots; slot += 2 {
		put(c, list, spotOf(chart.Status, slot), stateOf(status.Aborted))
	}
	steps += 1 + 5 + 1 + 6*4 + 2
	if n, e := oneWrite(t, c, list, asked{1, 0}, jolts...); n != steps || e != api.OK {
		t.Errorf("P13.1: %d steps, not %d, and it told %d", n, steps, e)
	}
}

// TestStrangeWorlds: a world that there is not, or another one than the
// memory's: each call ends.
func TestStrangeWorlds(t *testing.T) {
	for _, c := range []api.Config{{}, {Slots: -1, Keys: -1}, {Slots: 1}, {Keys: 1}, {Slots: 1 << 40, Keys: 1 << 40}, {Slots: math.MaxInt, Keys: math.MaxInt}, {Slots: math.MinInt, Keys: math.MinInt}, worldOf(1), worldOf(12)} {
		for h := range uint64(40) {
			for _, key := range []int{math.MinInt, -1, 0, 1, 2, 7, 8, 1 << 39, math.MaxInt} {
				for _, slots := range []int{1, 3} {
					m, w := made(t, worldOf(slots), words(worldOf(slots), 0, 0xff0fff)), New(c, h, key)
					for range 30 {
						count := m.Count()
						w.Step(m)
						if m.Count() > count+1 {
							t.Fatalf("P13.1: %d accesses in one step", m.Count()-count)
						}
						w.Done()
						w.Error()
					}
				}
			}
		}
	}
}

// bothEnds tells which ends of the conflict from a slot to the one that writes
// are there: that of the one that writes comes first.
func bothEnds(m *store.Memory, slot, from int) (bool, bool) {
	return m.Load(spotOf(chart.Status, slot))&in(from) != 0, m.Load(spotOf(chart.Status, from))&out(slot) != 0
}

// goesOn tells by the document's words whether another one goes on with one of
// the snapshot now.
func (o other) goesOn() bool {
	switch stateIn(o.word) {
	case status.Active, status.Committing:
		return true
	case status.Committed:
		return o.number == 0 || o.number > now
	}
	return false
}

// refuses tells by the document's words whether one may have no conflict to
// another one: it would have both sides, and is to be committed, or is.
func (o other) refuses() bool {
	return o.goesOn() && stateIn(o.word) != status.Active && o.word&out(0) == 0 && o.word&inMask != 0
}

// TestBehindIt: alone, of all kinds of two others, with all marks: by who goes
// on with it, it clashes, fails, or is the only writer, and has all conflicts.
func TestBehindIt(t *testing.T) {
	c := worldOf(3)
	for n := range len(kinds) * len(kinds) * 64 {
		others := []other{kinds[n/64%len(kinds)], kinds[n/64/len(kinds)]}
		key := uint64(n&7 | n&56<<9)
		m := made(t, c, words(c, 0, key, others...))
		w := New(c, 1, 1)
		for range 40 {
			w.Step(m)
		}
		want, marked := api.OK, key|writer(0)
		for i, o := range others {
			if key&reader(i+1) != 0 && o.refuses() {
				want = api.ErrFail
			}
		}
		for i, o := range others {
			if key&writer(i+1) != 0 && o.goesOn() {
				want, marked = api.ErrClash, key
			}
		}
		if w.Error() != want || m.Load(spotOf(chart.Key, 1)) != marked || m.Load(spotOf(chart.Key, 0)) != key {
			t.Fatalf("P13.3: of %+v, keys %d: it told %d, the words are %d", others, key, w.Error(), m.Cells())
		}
		behind(t, m, key, want, others)
	}
}

// behind asks for the statuses behind a write of slot 0 that told that.
func behind(t *testing.T, m *store.Memory, key uint64, e api.Errno, others []other) {
	t.Helper()
	state, own := status.Active, m.Load(spotOf(chart.Status, 0))
	if e != api.OK {
		state = status.Aborted
	}
	if own&^(0xfff<<12) != stateOf(state) || e == api.ErrClash && own != stateOf(state) {
		t.Fatalf("P13.3: of %+v, keys %d: its status is %d", others, key, own)
	}
	for i, o := range others {
		word := m.Load(spotOf(chart.Status, i+1))
		if word|out(0) != o.word|out(0) || e == api.ErrClash && word != o.word {
			t.Fatalf("P13.3: of %+v, keys %d: the status of %d is %d", others, key, i+1, word)
		}
		want := o.goesOn() && key&reader(i+1) != 0
		mine, yours := bothEnds(m, 0, i+1)
		if e == api.OK && (mine != want || yours != want && o.word&out(0) == 0) {
			t.Fatalf("P13.3: of %+v, keys %d: a conflict from %d is there: %t, %t, not %t", others, key, i+1, mine, yours, want)
		}
	}
}
