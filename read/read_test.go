package read

import (
	"math"
	"slices"
	"testing"

	"umpire/api"
	"umpire/chart"
	"umpire/status"
	"umpire/store"
)

// now is the snapshot of those who read here, if no other is said.
const now = 5

// other is what another transaction is like.
type other struct{ word, number uint64 }

// conflicts are what may be on the sides of another one: nothing, one slot,
// all of them, or one that is past. No one here is that of slot 0.
var conflicts = []uint64{
	0, out(2), out(11), in(2), in(11), outPast, inPast,
	out(2) | in(3), out(2) | inPast, outPast | in(2), outPast | inPast,
	outMask, inMask &^ in(0), (outMask | inMask) &^ in(0),
}

// kinds are others of each kind that a read tells apart.
var kinds = []other{
	{stateOf(status.Free), 0},
	{stateOf(status.Beginning), 0},
	{stateOf(status.Active), 0},
	{stateOf(status.Active) | busyBit | outPast, 0},
	{stateOf(status.Active) | in(0), 0},
	{stateOf(status.Committing) | busyBit, 0},
	{stateOf(status.Committing) | out(3), 0},
	{stateOf(status.Committing) | out(3) | in(0), 0},
	{stateOf(status.Committed) | out(3), now},
	{stateOf(status.Committed), now + 1},
	{stateOf(status.Committed) | outPast, now + 1},
	{stateOf(status.Committed), 0},
	{stateOf(status.Aborted), 0},
	{stateOf(status.Dead), now + 1},
	{stateOf(status.Clear), 0},
}

func worldOf(slots int) api.Config {
	return api.Config{Threads: 2, Slots: slots, Keys: 2, LastGen: 9, LastSeq: 9}
}

// words tells as many as the world has cells, no two alike, but for the keys,
// the slots' statuses and numbers, and the snapshot of the one that reads:
// that is Active. The others come rising.
func words(c api.Config, slot int, key uint64, others ...other) []uint64 {
	list := make([]uint64, chart.Len(c))
	for i := range list {
		list[i] = 1000 + 7*uint64(i)
	}
	for k := range c.Keys {
		put(c, list, spotOf(chart.Key, k), key)
	}
	for i := range c.Slots {
		put(c, list, spotOf(chart.Status, i), 0)
	}
	for i, o := range others {
		if i >= slot {
			i++
		}
		put(c, list, spotOf(chart.Status, i), o.word)
		put(c, list, spotOf(chart.Number, i), o.number)
	}
	put(c, list, spotOf(chart.Status, slot), stateOf(status.Active))
	put(c, list, spotOf(chart.Snapshot, slot), now)
	return list
}

func TestExample(t *testing.T) {
	c := worldOf(2)
	m := made(t, c, words(c, 0, writer(1), other{stateOf(status.Active), 0}))
	r := New(c, 1, 1)
	for n := 0; n < 20 && !r.Done(); n++ {
		r.Step(m)
	}
	own, others := m.Load(spotOf(chart.Status, 0)), m.Load(spotOf(chart.Status, 1))
	if !r.Done() || r.Error() != api.OK || own != stateOf(status.Active)|2 || others != stateOf(status.Active)|4096 || m.Load(spotOf(chart.Key, 1)) != 8193 {
		t.Errorf("P12.1: Done is %t, Error %d, the words are %d", r.Done(), r.Error(), m.Cells())
	}
}

// TestAtOnce: a key that there is not comes first, whatever the ticket is; then
// a ticket of no slot of the world.
func TestAtOnce(t *testing.T) {
	for keys := 1; keys <= api.MaxKeys; keys++ {
		for slots := 1; slots <= api.MaxSlots; slots++ {
			c := api.Config{Threads: 1, Slots: slots, Keys: keys, LastGen: 9, LastSeq: 9}
			stale := []uint64{0, 16, 13, 14, 15, 5<<4 | 13, 1<<64 - 1, ticketOf(slots-1, api.MaxGen+1), ticketOf(0, 1<<32), ticketOf(0, 1<<60-1)}
			for slot := slots; slot < api.MaxSlots; slot++ {
				stale = append(stale, ticketOf(slot, 0), ticketOf(slot, 5))
			}
			for _, h := range stale {
				atOnce(t, c, asked{h, 0}, api.ErrStale)
				atOnce(t, c, asked{h, keys - 1}, api.ErrStale)
			}
			for _, key := range []int{math.MinInt, -1 << 32, -1, keys, keys + 1, api.MaxKeys, 1 << 32, math.MaxInt} {
				atOnce(t, c, asked{ticketOf(slots-1, 0), key}, api.ErrKey)
				atOnce(t, c, asked{0, key}, api.ErrKey)
				atOnce(t, c, asked{ticketOf(slots, 0), key}, api.ErrKey)
			}
		}
	}
}

func atOnce(t *testing.T, c api.Config, x asked, e api.Errno) {
	t.Helper()
	list := words(c, 0, 0)
	m, r := made(t, c, list), New(c, x.h, x.key)
	done(t, r, m, e, list)
	if m.Count() != 0 || t.Failed() {
		t.Fatalf("P12.1: %d accesses of %+v in %+v", m.Count(), x, c)
	}
}

// TestNotEntered: whatever speaks against a call is told behind one look, and
// nothing is marked.
func TestNotEntered(t *testing.T) {
	c := worldOf(3)
	for _, x := range []struct {
		word uint64
		e    api.Errno
	}{
		{5*genUnit | stateOf(status.Free), api.ErrStale},
		{5*genUnit | stateOf(status.Beginning) | busyBit, api.ErrStale},
		{4*genUnit | stateOf(status.Active), api.ErrStale},
		{6*genUnit | stateOf(status.Active) | busyBit, api.ErrStale},
		{5*genUnit | stateOf(status.Active) | busyBit, api.ErrBusy},
		{5*genUnit | stateOf(status.Committing) | busyBit, api.ErrBusy},
		{5*genUnit | stateOf(status.Committing), api.ErrState},
		{5*genUnit | stateOf(status.Committed), api.ErrState},
		{5*genUnit | stateOf(status.Aborted), api.ErrState},
		{5*genUnit | stateOf(status.Dead), api.ErrState},
		{5*genUnit | stateOf(status.Clear), api.ErrState},
	} {
		list := words(c, 2, writer(0), other{stateOf(status.Active), 0})
		put(c, list, spotOf(chart.Status, 2), x.word)
		if n, e := oneRead(t, c, list, asked{ticketOf(2, 5), 1}); n != 1 || e != x.e {
			t.Errorf("P12.1: over %d there were %d accesses, and it told %d, not %d", x.word, n, e, x.e)
		}
	}
}

// TestEachStatusOfItsOwn: of every state and generation, Busy or not, with
// whatever on its sides.
func TestEachStatusOfItsOwn(t *testing.T) {
	c := worldOf(2)
	for n := range 16 * len(conflicts) {
		word := stateOf(n%8) | uint64(n/8%2)*busyBit | conflicts[n/16]
		for _, gen := range []uint64{0, 1, 4, 5, 6, api.MaxGen, api.MaxGen + 1, 5 | 1<<31} {
			for _, bits := range []uint64{0, 3 << 62} { // no world has the last ones
				list := words(c, 0, writer(1), other{stateOf(status.Active), 0})
				put(c, list, spotOf(chart.Status, 0), word|gen*genUnit|bits)
				for _, of := range []uint64{0, 5, api.MaxGen} {
					oneRead(t, c, list, asked{ticketOf(0, of), 0})
				}
			}
		}
	}
}

// TestEachPlace: each slot of each world, each key, with each mark of each
// slot that the world has.
func TestEachPlace(t *testing.T) {
	for slots := 1; slots <= api.MaxSlots; slots++ {
		c := worldOf(slots)
		c.Keys = 1 + slots%api.MaxKeys
		others := slices.Repeat([]other{{stateOf(status.Active), 0}}, slots-1)
		for slot := range slots {
			all := uint64(1)<<slots - 1
			for _, marks := range []uint64{0, all, all << 12, all<<12 | all, all<<12 | reader(slot), writer(slot), writer(slot) | reader(slot)} {
				for key := range c.Keys {
					list := words(c, slot, writer(slots-1))
					put(c, list, spotOf(chart.Key, key), marks)
					oneRead(t, c, list, asked{ticketOf(slot, 0), key})
					list = words(c, slot, 0, others...)
					put(c, list, spotOf(chart.Key, key), marks)
					oneRead(t, c, list, asked{ticketOf(slot, 0), key})
				}
			}
			for from := range slots {
				oneRead(t, c, words(c, slot, writer(from), others...), asked{ticketOf(slot, 0), 0})
				oneRead(t, c, words(c, slot, reader(from), others...), asked{ticketOf(slot, 0), 0})
			}
		}
	}
}

// TestEachOther: one that writes the key, of every state, with whatever on its
// sides, and of numbers about the snapshot; the conflict may be there already
// at either end.
func TestEachOther(t *testing.T) {
	c := worldOf(2)
	for n := range 32 * len(conflicts) {
		word := stateOf(n%8) | uint64(n/8%2)*busyBit | uint64(n/16%2)*in(0) | conflicts[n/32]
		for _, number := range []uint64{0, 1, now - 1, now, now + 1, 1<<64 - 1} {
			for _, own := range []uint64{0, out(1), out(0), in(1), in(0) | outPast | inPast} {
				for _, marks := range []uint64{writer(1), writer(1) | reader(0), reader(1)} {
					list := words(c, 0, marks, other{word, number})
					put(c, list, spotOf(chart.Status, 0), stateOf(status.Active)|own)
					oneRead(t, c, list, asked{1, 1})
				}
			}
		}
	}
}

// TestSnapshots: they are of the one that reads, and of no other.
func TestSnapshots(t *testing.T) {
	c := worldOf(3)
	edges := []uint64{0, 1, 2, 5, api.MaxSeq - 1, api.MaxSeq, 1 << 63, 1<<64 - 2, 1<<64 - 1}
	for _, snapshot := range edges {
		for _, number := range edges {
			list := words(c, 1, writer(0)|writer(2), other{stateOf(status.Committed), number}, other{stateOf(status.Committed) | outPast, number})
			put(c, list, spotOf(chart.Snapshot, 1), snapshot)
			oneRead(t, c, list, asked{2, 0})
		}
	}
}

// TestManyOthers: three of all kinds, each of which writes the key, or does
// not, from each slot's sight.
func TestManyOthers(t *testing.T) {
	c := worldOf(4)
	many := len(kinds)
	for n := range many * many * many {
		others := []other{kinds[n%many], kinds[n/many%many], kinds[n/many/many]}
		for marks := range uint64(16) {
			oneRead(t, c, words(c, 0, marks<<12, others...), asked{1, 0})
		}
		for slot := 1; slot < 4; slot++ {
			oneRead(t, c, words(c, slot, 0xf<<12, others...), asked{ticketOf(slot, 0), 1})
		}
	}
}

// TestFailsAtTheFirst: one that may have no conflict from it ends the read there,
// and those behind it are not looked at.
func TestFailsAtTheFirst(t *testing.T) {
	c := worldOf(4)
	fails := other{stateOf(status.Committing) | out(3), 0}
	active := other{stateOf(status.Active), 0}
	for _, x := range []struct {
		others []other
		steps  int
		own    uint64
	}{
		{[]other{fails, active, fails}, 8, 0},
		{[]other{active, fails, active}, 12, out(1)},
		{[]other{active, active, fails}, 16, out(1) | out(2)},
	} {
		list := words(c, 0, 0xe<<12, x.others...)
		n, e := oneRead(t, c, list, asked{1, 0})
		m, r := made(t, c, list), New(c, 1, 0)
		for range n {
			r.Step(m)
		}
		if n != x.steps || e != api.ErrFail || m.Load(spotOf(chart.Status, 0)) != stateOf(status.Aborted)|x.own {
			t.Errorf("P12.1: %d steps, not %d, it told %d, and its status is %d", n, x.steps, e, m.Load(spotOf(chart.Status, 0)))
		}
	}
}

// TestOddWords: no world has such marks, but a read ends over them: of bits
// that are nobody's, of slots that the world has not, and of all at once.
func TestOddWords(t *testing.T) {
	for _, slots := range []int{1, 2, 5, 11, 12} {
		c := worldOf(slots)
		for _, marks := range []uint64{1 << 24, 1 << 63, 1<<64 - 1, 1<<64 - 1 - reader(0), 0xfff << 12, 0xfff, 0xfff<<24 | writer(11)} {
			for _, o := range kinds {
				for _, bits := range []uint64{0, 1 << 62, 1<<64 - 1<<30} {
					o.word |= bits
					list := words(c, 0, marks, slices.Repeat([]other{o}, slots-1)...)
					oneRead(t, c, list, asked{1, 1})
				}
			}
		}
	}
}

// TestJolts: others store whatever they may, ahead of any access, once or
// twice: what is judged is what was looked at last, and what they laid stays.
func TestJolts(t *testing.T) {
	c := worldOf(3)
	var spots []jolt
	add := func(s chart.Spot, list ...uint64) {
		for _, word := range list {
			spots = append(spots, jolt{spot: s, word: word})
		}
	}
	active := stateOf(status.Active)
	add(spotOf(chart.Key, 0), 0, reader(0), reader(2), writer(1), writer(2), writer(1)|writer(2), writer(1)|reader(0)|writer(0))
	add(spotOf(chart.Status, 0), active, active|in(2), active|in(1)|out(1), active|busyBit, active|busyBit|in(1)|outPast, stateOf(status.Aborted), genUnit|active)
	add(spotOf(chart.Status, 1), active|in(2), stateOf(status.Committing), stateOf(status.Committing)|out(2), stateOf(status.Committed), stateOf(status.Committed)|outPast, stateOf(status.Aborted), 0)
	add(spotOf(chart.Number, 1), 0, now, now+1)
	add(spotOf(chart.Snapshot, 0), now-1, now+1, 0)
	for _, o := range []other{{active, now}, {stateOf(status.Committed), now + 1}, {stateOf(status.Committing) | out(2), 0}} {
		for _, marks := range []uint64{0, writer(1), writer(1) | writer(2), writer(1) | reader(0)} {
			list := words(c, 0, marks, o, other{active, 0})
			most, _ := oneRead(t, c, list, asked{1, 0})
			for n := range most * len(spots) {
				first := spots[n%len(spots)]
				first.ahead = n / len(spots)
				oneRead(t, c, list, asked{1, 0}, first)
				for _, second := range spots {
					for _, behind := range []int{1, 2, 4} {
						second.ahead = first.ahead + behind
						oneRead(t, c, list, asked{1, 0}, first, second)
					}
				}
			}
		}
	}
}

// TestLosesAgainAndAgain: the swap of the key is lost to each mark of all the
// others; these are there in the end, and each of those has the conflict.
func TestLosesAgainAndAgain(t *testing.T) {
	c := worldOf(api.MaxSlots)
	var jolts []jolt
	key := uint64(0)
	for slot := 1; slot < api.MaxSlots; slot++ {
		for _, bit := range []uint64{reader(slot), writer(slot)} {
			key |= bit
			jolts = append(jolts, jolt{4 + 2*len(jolts), spotOf(chart.Key, 0), key})
		}
	}
	list := words(c, 0, 0, slices.Repeat([]other{{stateOf(status.Active), 0}}, 11)...)
	steps := 2 + 1 + 2*22 + 2 + 11*4 + 2
	if n, e := oneRead(t, c, list, asked{1, 0}, jolts...); n != steps || e != api.OK {
		t.Errorf("P12.1: %d steps, not %d, and it told %d", n, steps, e)
	}
}

// TestStrangeWorlds: a world that there is not, or another one than the
// memory's: each call ends.
func TestStrangeWorlds(t *testing.T) {
	for _, c := range []api.Config{{}, {Slots: -1, Keys: -1}, {Slots: 1}, {Keys: 1}, {Slots: 1 << 40, Keys: 1 << 40}, {Slots: math.MaxInt, Keys: math.MaxInt}, {Slots: math.MinInt, Keys: math.MinInt}, worldOf(1), worldOf(12)} {
		for h := range uint64(40) {
			for _, key := range []int{math.MinInt, -1, 0, 1, 2, 7, 8, 1 << 39, math.MaxInt} {
				for _, slots := range []int{1, 3} {
					m, r := made(t, worldOf(slots), words(worldOf(slots), 0, 0xfff<<12)), New(c, h, key)
					for range 30 {
						count := m.Count()
						r.Step(m)
						if m.Count() > count+1 {
							t.Fatalf("P12.1: %d accesses in one step", m.Count()-count)
						}
						r.Done()
						r.Error()
					}
				}
			}
		}
	}
}

// bothEnds tells which ends of the conflict to a slot are there.
func bothEnds(m *store.Memory, slot, to int) (bool, bool) {
	return m.Load(spotOf(chart.Status, slot))&out(to) != 0, m.Load(spotOf(chart.Status, to))&in(slot) != 0
}

// goesOn tells by the document's words whether another one goes on with one of
// the snapshot now.
func (o other) goesOn() bool {
	switch stateIn(o.word) {
	case status.Active, status.Committing:
		return true
	case status.Committed:
		return o.number == 0 || o.number > now
	}
	return false
}

// TestBehindIt: alone, of all kinds of two others, with all marks.
func TestBehindIt(t *testing.T) {
	c := worldOf(3)
	for n := range len(kinds) * len(kinds) * 64 {
		others := []other{kinds[n/64%len(kinds)], kinds[n/64/len(kinds)]}
		key := uint64(n&7 | n&56<<9)
		m := made(t, c, words(c, 0, key, others...))
		r := New(c, 1, 1)
		for range 40 {
			r.Step(m)
		}
		own := m.Load(spotOf(chart.Status, 0))
		if m.Load(spotOf(chart.Key, 1)) != key|reader(0) || m.Load(spotOf(chart.Key, 0)) != key {
			t.Fatalf("P12.3: of %+v, keys %d: the words are %d", others, key, m.Cells())
		}
		if stateIn(own) == status.Aborted {
			if r.Error() != api.ErrFail || own&busyBit != 0 {
				t.Fatalf("P12.3: of %+v, keys %d: aborted, and it told %d", others, key, r.Error())
			}
			continue
		}
		if r.Error() != api.OK || own&^0xfff != stateOf(status.Active) {
			t.Fatalf("P12.3: of %+v, keys %d: it told %d, its status is %d", others, key, r.Error(), own)
		}
		for i, o := range others {
			want := o.goesOn() && key&writer(i+1) != 0
			mine, yours := bothEnds(m, 0, i+1)
			if mine != want || yours != want && o.word&in(0) == 0 {
				t.Fatalf("P12.3: of %+v, keys %d: a conflict to %d is there: %t, %t, not %t", others, key, i+1, mine, yours, want)
			}
		}
	}
}
