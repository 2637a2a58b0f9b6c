package pin

import (
	"math"
	"slices"
	"testing"

	"umpire/api"
	"umpire/chart"
	"umpire/store"
)

// edges are words at which numbers end, go round, or are as small as can be.
var edges = []uint64{0, 1, 2, 5, 6, 7, 1<<32 - 1, 1 << 32, 1<<63 - 1, 1 << 63, 1<<64 - 3, 1<<64 - 2, 1<<64 - 1}

// strangers are threads that no world has.
var strangers = []int{math.MinInt, -1, api.MaxThreads, 1 << 32, math.MaxInt}

func worldOf(threads int) api.Config {
	return api.Config{Threads: threads, Slots: 2, Keys: 2, LastGen: 9, LastSeq: 9}
}

func epochSpot() chart.Spot { return chart.Spot{Kind: chart.Epoch} }

func pinSpot(thread int) chart.Spot { return chart.Spot{Kind: chart.Pin, Of: thread} }

// words tells as many as the world has cells, no two alike, but for the epoch
// and the pins that are asked for.
func words(c api.Config, epoch uint64, pins ...uint64) []uint64 {
	list := make([]uint64, chart.Len(c))
	for i := range list {
		list[i] = 1000 + 7*uint64(i)
	}
	list[chart.Cell(c, epochSpot())] = epoch
	for thread, pin := range pins {
		list[chart.Cell(c, pinSpot(thread))] = pin
	}
	return list
}

func made(t *testing.T, c api.Config, list []uint64) *store.Memory {
	t.Helper()
	m, e := store.Of(c, list)
	if e != api.OK {
		t.Fatalf("there is no memory of %+v: %d", c, e)
	}
	return m
}

// last is held against what the memory tells of its accesses.
func last(t *testing.T, promise string, m *store.Memory, count int, want store.Touch) {
	t.Helper()
	if m.Count() != count || m.Last() != want {
		t.Errorf("%s: %d accesses, not %d, the last %+v, not %+v", promise, m.Count(), count, m.Last(), want)
	}
}

func TestExamples(t *testing.T) {
	for _, x := range []struct {
		retired uint64
		later   bool
	}{{5, false}, {6, true}} {
		m := made(t, worldOf(3), words(worldOf(3), 0, 1, 0, 7))
		g := NewGrace(0, x.retired)
		for range 2 {
			g.Step(m)
		}
		if !g.Done(m) || g.Later() != x.later {
			t.Errorf("P7.2: pins of 0 and 7, retired in %d: Done is %t, Later is %t", x.retired, g.Done(m), g.Later())
		}
	}
}

func TestPinsSteps(t *testing.T) {
	for threads := 1; threads <= api.MaxThreads; threads++ {
		for thread := range threads {
			for _, epoch := range edges {
				onePin(t, worldOf(threads), thread, epoch)
			}
		}
	}
}

// onePin steps a pin from its beginning to beyond its end, and looks at all
// words and all accesses.
func onePin(t *testing.T, c api.Config, thread int, epoch uint64) {
	t.Helper()
	list := words(c, epoch)
	m, p, cell := made(t, c, list), New(thread), chart.Cell(c, pinSpot(thread))
	if p.Done() {
		t.Errorf("P7.1: New(%d) is Done at once", thread)
	}
	p.Step(m)
	last(t, "P7.1: load", m, 1, store.Touch{Kind: store.Loads, Spot: epochSpot(), Old: epoch, New: epoch, Done: true})
	if p.Done() || !slices.Equal(m.Cells(), list) {
		t.Errorf("P7.1: the first Step of New(%d) only loads: Done is %t, words are %d", thread, p.Done(), m.Cells())
	}
	p.Step(m)
	laid := store.Touch{Kind: store.Stores, Spot: pinSpot(thread), Old: list[cell], New: epoch + 1, Done: true}
	list[cell] = epoch + 1
	for range 3 {
		last(t, "P7.1: lay", m, 2, laid)
		if !p.Done() || !slices.Equal(m.Cells(), list) {
			t.Errorf("P7.1: behind New(%d) in epoch %d: Done is %t, words are %d, not %d", thread, epoch, p.Done(), m.Cells(), list)
		}
		p.Step(m)
	}
}

func TestPinIsOfTheEpochThatWasLoaded(t *testing.T) {
	m := made(t, worldOf(2), words(worldOf(2), 4))
	p := New(1)
	p.Step(m)
	m.Add(epochSpot(), 3)
	p.Step(m)
	if pin := m.Load(pinSpot(1)); pin != 5 {
		t.Errorf("P7.1: loaded in epoch 4, laid in 7: the Pin is %d, not 5", pin)
	}
}

func TestPinGoesRound(t *testing.T) {
	m := made(t, worldOf(2), words(worldOf(2), 1<<64-1, 8, 9))
	p := New(0)
	p.Step(m)
	p.Step(m)
	if pin := m.Load(pinSpot(0)); pin != 0 || !p.Done() {
		t.Errorf("P7.1: in the last epoch the Pin is %d, not 0", pin)
	}
}

func TestPinsStepByTurns(t *testing.T) {
	m := made(t, worldOf(2), words(worldOf(2), 4, 0, 0))
	a, b := New(0), New(1)
	a.Step(m)
	m.Add(epochSpot(), 1)
	b.Step(m)
	b.Step(m)
	if a.Done() || !b.Done() || m.Load(pinSpot(0)) != 0 {
		t.Error("P7.1: one pin's steps are another one's")
	}
	a.Step(m)
	if m.Load(pinSpot(0)) != 5 || m.Load(pinSpot(1)) != 6 {
		t.Errorf("P7.1: Pins of two are %d and %d, not 5 and 6", m.Load(pinSpot(0)), m.Load(pinSpot(1)))
	}
}

func TestPinOfAStranger(t *testing.T) {
	for _, thread := range append([]int{3}, strangers...) {
		list := words(worldOf(3), 4)
		m, p := made(t, worldOf(3), list), New(thread)
		for range 2 {
			if p.Done() {
				t.Errorf("P7.1: New(%d) is Done too early", thread)
			}
			p.Step(m)
		}
		last(t, "P7.1: lay", m, 2, store.Touch{Kind: store.Stores, Spot: pinSpot(thread)})
		p.Step(m)
		Leave(m, thread)
		last(t, "P7.1: Leave", m, 3, store.Touch{Kind: store.Stores, Spot: pinSpot(thread)})
		if !p.Done() || !slices.Equal(m.Cells(), list) {
			t.Errorf("P7.1: thread %d is in no world of 3: Done is %t, words are %d", thread, p.Done(), m.Cells())
		}
	}
}

func TestLeave(t *testing.T) {
	for threads := 1; threads <= api.MaxThreads; threads++ {
		c := worldOf(threads)
		for thread := range threads {
			list := words(c, 4)
			m, cell := made(t, c, list), chart.Cell(c, pinSpot(thread))
			left := store.Touch{Kind: store.Stores, Spot: pinSpot(thread), Old: list[cell], Done: true}
			Leave(m, thread)
			last(t, "P7.1: Leave", m, 1, left)
			list[cell] = 0
			if !slices.Equal(m.Cells(), list) {
				t.Errorf("P7.1: Leave(%d) leaves %d, not %d", thread, m.Cells(), list)
			}
			Leave(m, thread)
			left.Old = 0
			last(t, "P7.1: Leave of one that is not pinned", m, 2, left)
		}
	}
}

// held says by the chapter's own words whether a pin holds what was retired.
func held(pin, retired uint64) bool {
	if pin == 0 {
		return false
	}
	return retired == 1<<64-1 || pin <= retired+1
}

// looks lists whose pins a grace looks at, and whether the last one holds.
func looks(pins []uint64, thread int, retired uint64) ([]int, bool) {
	var list []int
	for other, pin := range pins {
		if other == thread {
			continue
		}
		list = append(list, other)
		if held(pin, retired) {
			return list, true
		}
	}
	return list, false
}

// oneGrace steps a grace from its beginning to beyond its end, and looks at
// all words and all accesses.
func oneGrace(t *testing.T, pins []uint64, thread int, retired uint64) {
	t.Helper()
	c := worldOf(len(pins))
	list := words(c, retired, pins...)
	m, g := made(t, c, list), NewGrace(thread, retired)
	others, later := looks(pins, thread, retired)
	for i, other := range others {
		if g.Done(m) || g.Later() {
			t.Fatalf("P7.2: pins %d, thread %d, retired %d: behind %d steps Done is %t, Later is %t", pins, thread, retired, i, g.Done(m), g.Later())
		}
		g.Step(m)
		last(t, "P7.2", m, i+1, store.Touch{Kind: store.Loads, Spot: pinSpot(other), Old: pins[other], New: pins[other], Done: true})
	}
	for range 3 {
		if !g.Done(m) || g.Later() != later || m.Count() != len(others) {
			t.Fatalf("P7.2: pins %d, thread %d, retired %d: behind %d steps (of %d) Done is %t, Later is %t, not %t", pins, thread, retired, m.Count(), len(others), g.Done(m), g.Later(), later)
		}
		g.Step(m)
	}
	if !slices.Equal(m.Cells(), list) {
		t.Errorf("P7.2: pins %d, thread %d, retired %d: words are changed to %d", pins, thread, retired, m.Cells())
	}
}

// All worlds of up to 4 threads, all pins of a few, each thread, and
// strangers.
func TestGraceOfSmallWorlds(t *testing.T) {
	kinds := []uint64{0, 1, 5, 6, 7, 1<<64 - 1}
	count := 1
	for threads := 1; threads <= 4; threads++ {
		count *= len(kinds)
		for n := range count {
			pins := make([]uint64, threads)
			for i := range pins {
				pins[i] = kinds[n%len(kinds)]
				n /= len(kinds)
			}
			for thread := -1; thread <= threads; thread++ {
				for _, retired := range []uint64{0, 5, 1<<64 - 2, 1<<64 - 1} {
					oneGrace(t, pins, thread, retired)
				}
			}
		}
	}
}

// One that is pinned, at each place of a world, with pins and epochs of all
// sizes.
func TestGraceOfOnePinned(t *testing.T) {
	for threads := 1; threads <= api.MaxThreads; threads++ {
		for pinned := range threads {
			for _, pin := range edges {
				pins := make([]uint64, threads)
				pins[pinned] = pin
				for _, retired := range edges {
					for thread := range threads {
						oneGrace(t, pins, thread, retired)
					}
				}
			}
		}
	}
}

func TestGraceOfAStrangerLooksAtAll(t *testing.T) {
	pins := []uint64{9, 0, 8, 0, 9, 9, 7, 6}
	for _, thread := range strangers {
		for threads := 1; threads <= api.MaxThreads; threads++ {
			for _, retired := range edges {
				oneGrace(t, pins[:threads], thread, retired)
			}
		}
	}
}

func TestGraceOfTheOnlyThread(t *testing.T) {
	for _, pin := range edges {
		m := made(t, worldOf(1), words(worldOf(1), 4, pin))
		g := NewGrace(0, 9)
		if !g.Done(m) || g.Later() {
			t.Errorf("P7.2: alone, Done is %t, Later is %t", g.Done(m), g.Later())
		}
		g.Step(m)
		if m.Count() != 0 {
			t.Error("P7.2: alone, a Step looks")
		}
	}
}

// Each pin is looked at once: what comes behind that is not seen.
func TestGraceSeesEachPinAsItIsThen(t *testing.T) {
	m := made(t, worldOf(3), words(worldOf(3), 5, 0, 3, 3))
	g := NewGrace(1, 5)
	g.Step(m)
	m.Store(pinSpot(0), 1)
	Leave(m, 2)
	g.Step(m)
	if !g.Done(m) || g.Later() {
		t.Errorf("P7.2: one pinned behind the look, one left ahead of it: Done is %t, Later is %t", g.Done(m), g.Later())
	}
	g = NewGrace(1, 5)
	g.Step(m)
	Leave(m, 0)
	if !g.Done(m) || !g.Later() {
		t.Errorf("P7.2: one left behind the look: Done is %t, Later is %t", g.Done(m), g.Later())
	}
}

func TestGraceIsDoneByTheMemorysWorld(t *testing.T) {
	small, great := made(t, worldOf(1), words(worldOf(1), 0, 1)), made(t, worldOf(3), words(worldOf(3), 0, 0, 0, 0))
	g := NewGrace(0, 5)
	if !g.Done(small) || g.Done(great) {
		t.Errorf("P7.2: Done is %t alone, %t among three", g.Done(small), g.Done(great))
	}
	g.Step(small)
	g.Step(great)
	g.Step(great)
	if small.Count() != 0 || great.Count() != 2 || !g.Done(great) {
		t.Errorf("P7.2: %d looks alone, %d among three", small.Count(), great.Count())
	}
}

func TestTellingIsNoAccess(t *testing.T) {
	m := made(t, worldOf(3), words(worldOf(3), 4, 0, 0, 0))
	p, g := New(0), NewGrace(0, 4)
	p.Step(m)
	g.Step(m)
	was := m.Last()
	for range 3 {
		p.Done()
		g.Done(m)
		g.Later()
	}
	last(t, "P7.2: telling", m, 2, was)
	if p.Done() || g.Done(m) || g.Later() {
		t.Error("P7.2: telling is a step")
	}
}

// What is retired in an epoch is held by who was pinned in it, or earlier,
// and by nobody else.
func TestWhoHolds(t *testing.T) {
	for _, epoch := range edges {
		for _, retired := range edges {
			m := made(t, worldOf(2), words(worldOf(2), epoch, 0, 0))
			p, g := New(1), NewGrace(0, retired)
			p.Step(m)
			p.Step(m)
			g.Step(m)
			// The pin of the very last epoch goes round to none.
			want := epoch <= retired && epoch != 1<<64-1
			if !g.Done(m) || g.Later() != want {
				t.Errorf("P7.3: pinned in %d, retired in %d: Done is %t, Later is %t, not %t", epoch, retired, g.Done(m), g.Later(), want)
			}
			Leave(m, 1)
			g = NewGrace(0, retired)
			g.Step(m)
			if !g.Done(m) || g.Later() {
				t.Errorf("P7.3: who left holds what was retired in %d", retired)
			}
		}
	}
}
