package chart

import (
	"math"
	"testing"

	"umpire/api"
)

// anyNumbers are such as may be handed in for any part of a spot, or as a
// cell: some would look right if they went round.
var anyNumbers = []int{math.MinInt, math.MinInt + 1, -1 << 62, -1 << 61, -1 << 32, -66, -9, -4, -1, 66, 67, 100, 1 << 16, 1 << 32, 1<<32 + 1, 1 << 61, 1<<61 + 1, 1 << 62, 1<<62 + 1, 3 << 61, math.MaxInt - 3, math.MaxInt - 1, math.MaxInt}

func someWorld() api.Config {
	return api.Config{Threads: 2, Slots: 3, Keys: 2, LastGen: 9, LastSeq: 9}
}

// allSizes holds a world of each number of threads, slots and keys.
func allSizes() []api.Config {
	var worlds []api.Config
	for threads := 1; threads <= 8; threads++ {
		for slots := 1; slots <= 12; slots++ {
			for keys := 1; keys <= 8; keys++ {
				worlds = append(worlds, api.Config{Threads: threads, Slots: slots, Keys: keys})
			}
		}
	}
	return worlds
}

// wrongWorlds holds worlds of which one part is wrong, or all are.
func wrongWorlds() []api.Config {
	worlds := []api.Config{{}, {Threads: -1, Slots: -1, Keys: -1, LastGen: -1, LastSeq: math.MaxUint64}}
	with := func(turn func(c *api.Config)) {
		c := someWorld()
		turn(&c)
		worlds = append(worlds, c)
	}
	for _, n := range []int{math.MinInt, -1, 1 << 32, 1<<32 + 1, math.MaxInt} {
		with(func(c *api.Config) { c.Threads = n })
		with(func(c *api.Config) { c.Slots = n })
		with(func(c *api.Config) { c.Keys = n })
		with(func(c *api.Config) { c.LastGen = n })
	}
	with(func(c *api.Config) { c.Threads = 0 })
	with(func(c *api.Config) { c.Threads = 9 })
	with(func(c *api.Config) { c.Slots = 0 })
	with(func(c *api.Config) { c.Slots = 13 })
	with(func(c *api.Config) { c.Keys = 0 })
	with(func(c *api.Config) { c.Keys = 9 })
	with(func(c *api.Config) { c.LastGen = 1 << 30 })
	for _, n := range []uint64{1 << 40, 1<<40 + 1, 1 << 63, math.MaxUint64} {
		with(func(c *api.Config) { c.LastSeq = n })
	}
	return worlds
}

// spotsOf lists a world's spots in the order that the chapter tells.
func spotsOf(c api.Config) []Spot {
	spots := []Spot{{Tally, 0}, {Epoch, 0}}
	for thread := range c.Threads {
		spots = append(spots, Spot{Pin, thread})
	}
	for slot := range c.Slots {
		spots = append(spots, Spot{Status, slot}, Spot{Snapshot, slot}, Spot{Number, slot}, Spot{Retired, slot})
	}
	for key := range c.Keys {
		spots = append(spots, Spot{Key, key})
	}
	return spots
}

// noSpots lists such as no world has, and such as this one lacks.
func noSpots(c api.Config) []Spot {
	spots := []Spot{{}, {Nothing, 1}, {Tally, 1}, {Epoch, 1}, {Pin, c.Threads}, {Status, c.Slots}, {Snapshot, c.Slots}, {Number, c.Slots}, {Retired, c.Slots}, {Key, c.Keys}, {9, 0}, {9, 1}, {10, 0}}
	for kind := Nothing; kind <= Key; kind++ {
		for _, of := range anyNumbers {
			spots = append(spots, Spot{kind, of})
		}
	}
	for _, kind := range anyNumbers {
		for _, of := range []int{math.MinInt, -1, 0, 1, 2, math.MaxInt} {
			spots = append(spots, Spot{kind, of})
		}
	}
	return spots
}

func TestExamples(t *testing.T) {
	c := someWorld()
	if n := Len(c); n != 18 {
		t.Error("P5.2: Len of 2 threads, 3 slots, 2 keys is 18, not", n)
	}
	if cell := Cell(c, Spot{Kind: Status, Of: 1}); cell != 8 {
		t.Error("P5.2: Cell(Status of 1) is 8, not", cell)
	}
	if cell := Cell(c, Spot{Kind: Key, Of: 1}); cell != 17 {
		t.Error("P5.2: Cell(Key of 1) is 17, not", cell)
	}
}

func TestKindsAreCounted(t *testing.T) {
	for want, kind := range []int{Nothing, Tally, Epoch, Pin, Status, Snapshot, Number, Retired, Key} {
		if kind != want {
			t.Errorf("P5.2: kind %d is %d", want, kind)
		}
	}
}

func TestRight(t *testing.T) {
	for _, c := range allSizes() {
		for _, gen := range []int{0, 1, 9, 1<<30 - 2, 1<<30 - 1} {
			for _, seq := range []uint64{0, 1, 9, 1<<40 - 2, 1<<40 - 1} {
				c.LastGen, c.LastSeq = gen, seq
				if !Right(c) {
					t.Errorf("P5.1: %+v is right", c)
				}
			}
		}
	}
}

func TestWhatIsNotRightHasNothing(t *testing.T) {
	for _, c := range wrongWorlds() {
		if Right(c) {
			t.Errorf("P5.1: %+v is not right", c)
		}
		if n := Len(c); n != 0 {
			t.Errorf("P5.2: %+v is not right, and has %d cells", c, n)
		}
		for _, s := range append(spotsOf(someWorld()), noSpots(someWorld())...) {
			if cell := Cell(c, s); cell != -1 {
				t.Errorf("P5.2: %+v is not right, and %v stands at %d", c, s, cell)
			}
		}
		for cell := -70; cell < 70; cell++ {
			if s := At(c, cell); s != (Spot{}) {
				t.Errorf("P5.2: %+v is not right, and %v stands at %d", c, s, cell)
			}
		}
		for _, cell := range anyNumbers {
			if s := At(c, cell); s != (Spot{}) {
				t.Errorf("P5.2: %+v is not right, and %v stands at %d", c, s, cell)
			}
		}
	}
}

func TestCellsInTheirOrder(t *testing.T) {
	for _, c := range allSizes() {
		spots := spotsOf(c)
		if n := Len(c); n != len(spots) {
			t.Errorf("P5.2: %+v has %d cells, not %d", c, n, len(spots))
		}
		for want, s := range spots {
			if cell := Cell(c, s); cell != want {
				t.Errorf("P5.2: of %+v, %v stands at %d, not at %d", c, s, cell, want)
			}
			if got := At(c, want); got != s {
				t.Errorf("P5.2: of %+v, at %d stands %v, not %v", c, want, got, s)
			}
		}
	}
}

func TestWhatIsNotThere(t *testing.T) {
	for _, c := range allSizes() {
		for _, s := range noSpots(c) {
			if cell := Cell(c, s); cell != -1 {
				t.Errorf("P5.2: %+v has no %v, and it stands at %d", c, s, cell)
			}
		}
		for _, cell := range append([]int{Len(c), Len(c) + 1, Len(c) + 2, Len(c) + 4}, anyNumbers...) {
			if s := At(c, cell); s != (Spot{}) {
				t.Errorf("P5.2: %+v has no cell %d, and %v stands there", c, cell, s)
			}
		}
	}
}

func TestEachCellIsJustOneSpot(t *testing.T) {
	for _, c := range allSizes() {
		where := map[Spot]int{}
		for cell := range Len(c) {
			s := At(c, cell)
			if other, is := where[s]; is {
				t.Errorf("P5.3: of %+v, cells %d and %d are both %v", c, other, cell, s)
			}
			where[s] = cell
			if got := Cell(c, s); got != cell {
				t.Errorf("P5.3: of %+v, %v is cell %d, and stands at %d", c, s, cell, got)
			}
		}
		found := 0
		for kind := -2; kind <= Key+2; kind++ {
			for of := -2; of <= 14; of++ {
				cell := Cell(c, Spot{kind, of})
				if cell == -1 {
					continue
				}
				found++
				if got := At(c, cell); got != (Spot{kind, of}) {
					t.Errorf("P5.3: of %+v, %v stands at %d, where %v is", c, Spot{kind, of}, cell, got)
				}
			}
		}
		if found != Len(c) {
			t.Errorf("P5.3: %+v has %d cells, and %d spots stand there", c, Len(c), found)
		}
	}
}

// The last generation and number say nothing about where what stands.
func TestLastOnesMoveNothing(t *testing.T) {
	small, great := someWorld(), someWorld()
	small.LastGen, small.LastSeq = 0, 0
	great.LastGen, great.LastSeq = api.MaxGen, api.MaxSeq
	for cell := -1; cell <= 18; cell++ {
		if At(small, cell) != At(great, cell) || Cell(small, At(small, cell)) != Cell(great, At(small, cell)) {
			t.Error("P5.2: another spot, for other last ones, at", cell)
		}
	}
	if Len(small) != Len(great) {
		t.Error("P5.2: another length, for other last ones")
	}
}
