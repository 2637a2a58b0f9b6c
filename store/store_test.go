package store

import (
	"math"
	"slices"
	"testing"

	"umpire/api"
	"umpire/chart"
)

// anyWords are such as may stand in a cell, or be handed in: the greatest go
// round where they meet.
var anyWords = []uint64{0, 1, 2, 5, 1<<32 - 1, 1 << 32, 1<<63 - 1, 1 << 63, 1<<64 - 2, 1<<64 - 1}

func someWorld() api.Config {
	return api.Config{Threads: 2, Slots: 3, Keys: 2, LastGen: 9, LastSeq: 9}
}

// someWorlds holds the smallest world, the greatest one, and some between.
func someWorlds() []api.Config {
	return []api.Config{
		{Threads: 1, Slots: 1, Keys: 1},
		{Threads: 1, Slots: 1, Keys: 2},
		someWorld(),
		{Threads: 8, Slots: 1, Keys: 1, LastGen: 1},
		{Threads: 1, Slots: 12, Keys: 1, LastSeq: 1},
		{Threads: 1, Slots: 1, Keys: 8},
		{Threads: 8, Slots: 12, Keys: 8, LastGen: api.MaxGen, LastSeq: api.MaxSeq},
	}
}

// wrongWorlds holds worlds of which one part is wrong, or all are.
func wrongWorlds() []api.Config {
	worlds := []api.Config{{}, {Threads: -1, Slots: -1, Keys: -1, LastGen: -1, LastSeq: math.MaxUint64}}
	with := func(turn func(c *api.Config)) {
		c := someWorld()
		turn(&c)
		worlds = append(worlds, c)
	}
	for _, n := range []int{math.MinInt, -1, 0, 13, 1 << 32, math.MaxInt} {
		with(func(c *api.Config) { c.Threads = n })
		with(func(c *api.Config) { c.Slots = n })
		with(func(c *api.Config) { c.Keys = n })
	}
	with(func(c *api.Config) { c.LastGen = -1 })
	with(func(c *api.Config) { c.LastGen = api.MaxGen + 1 })
	with(func(c *api.Config) { c.LastSeq = api.MaxSeq + 1 })
	return worlds
}

// nowhere lists spots that stand nowhere in the world.
func nowhere(c api.Config) []chart.Spot {
	spots := []chart.Spot{
		{},
		{Kind: chart.Nothing, Of: 1},
		{Kind: chart.Tally, Of: 1},
		{Kind: chart.Epoch, Of: 1},
		{Kind: chart.Pin, Of: c.Threads},
		{Kind: chart.Status, Of: c.Slots},
		{Kind: chart.Snapshot, Of: c.Slots},
		{Kind: chart.Number, Of: c.Slots},
		{Kind: chart.Retired, Of: c.Slots},
		{Kind: chart.Key, Of: c.Keys},
		{Kind: chart.Key + 1},
		{Kind: -1},
		{Kind: math.MinInt, Of: math.MinInt},
		{Kind: math.MaxInt, Of: math.MaxInt},
	}
	for kind := chart.Nothing; kind <= chart.Key; kind++ {
		for _, of := range []int{math.MinInt, -1, 12, 1 << 32, 1 << 62, math.MaxInt} {
			spots = append(spots, chart.Spot{Kind: kind, Of: of})
		}
	}
	return spots
}

// distinct tells as many words as the world has cells, no two alike.
func distinct(c api.Config) []uint64 {
	words := make([]uint64, chart.Len(c))
	for i := range words {
		words[i] = 1000 + 7*uint64(i)
	}
	return words
}

// made is a memory with these words.
func made(t *testing.T, c api.Config, words []uint64) *Memory {
	t.Helper()
	m, e := Of(c, words)
	if e != api.OK || m == nil {
		t.Fatalf("P6.1: Of(%+v, %d words) tells %d", c, len(words), e)
	}
	return m
}

// deed is an access that a test does: what it was given, and what it has to
// tell and to leave behind of the word that it meets, all worked out anew.
type deed struct {
	name string
	kind int
	do   func(m *Memory, s chart.Spot) uint64
	tell func(word uint64) uint64
	turn func(word uint64) uint64
	done func(word uint64) bool
}

func toBit(is bool) uint64 {
	if is {
		return 1
	}
	return 0
}

// deeds lists all kinds of accesses, of these two words.
func deeds(a, b uint64) []deed {
	always := func(uint64) bool { return true }
	isA := func(word uint64) bool { return word == a }
	return []deed{
		{"Load", 1,
			func(m *Memory, s chart.Spot) uint64 { return m.Load(s) },
			func(word uint64) uint64 { return word },
			func(word uint64) uint64 { return word }, always},
		{"Store", 2,
			func(m *Memory, s chart.Spot) uint64 { m.Store(s, a); return 0 },
			func(word uint64) uint64 { return 0 },
			func(word uint64) uint64 { return a }, always},
		{"Swap", 3,
			func(m *Memory, s chart.Spot) uint64 { return toBit(m.Swap(s, a, b)) },
			func(word uint64) uint64 { return toBit(word == a) },
			func(word uint64) uint64 {
				if word == a {
					return b
				}
				return word
			}, isA},
		{"Add", 4,
			func(m *Memory, s chart.Spot) uint64 { return m.Add(s, a) },
			func(word uint64) uint64 { return word },
			func(word uint64) uint64 { return word + a }, always},
	}
}

func TestExamples(t *testing.T) {
	m, _ := New(someWorld())
	epoch := chart.Spot{Kind: chart.Epoch}
	if was := m.Add(epoch, 5); was != 0 {
		t.Error("P6.2: Add(Epoch, 5) is 0, not", was)
	}
	if !m.Swap(epoch, 5, 7) {
		t.Error("P6.2: Swap(Epoch, 5, 7) is true")
	}
	if word := m.Load(epoch); word != 7 {
		t.Error("P6.2: Load(Epoch) is 7, not", word)
	}
}

func TestKindsAreCounted(t *testing.T) {
	for i, kind := range []int{Loads, Stores, Swaps, Adds} {
		if kind != i+1 {
			t.Errorf("P6.2: kind %d is %d", i+1, kind)
		}
	}
}

func TestNew(t *testing.T) {
	for _, c := range someWorlds() {
		m, e := New(c)
		if e != api.OK || m == nil {
			t.Fatalf("P6.1: New(%+v) tells %d", c, e)
		}
		if m.Config() != c {
			t.Errorf("P6.1: Config is %+v, not %+v", m.Config(), c)
		}
		if words := m.Cells(); !slices.Equal(words, make([]uint64, chart.Len(c))) {
			t.Errorf("P6.1: New(%+v) has the words %d", c, words)
		}
		if m.Count() != 0 || m.Last() != (Touch{}) {
			t.Errorf("P6.3: a new memory has %d accesses, of which the last is %+v", m.Count(), m.Last())
		}
	}
}

func TestOf(t *testing.T) {
	for _, c := range someWorlds() {
		words := distinct(c)
		m := made(t, c, words)
		if m.Config() != c {
			t.Errorf("P6.1: Config is %+v, not %+v", m.Config(), c)
		}
		if got := m.Cells(); !slices.Equal(got, words) {
			t.Errorf("P6.1: Of(%+v, %d) has the words %d", c, words, got)
		}
		if m.Count() != 0 || m.Last() != (Touch{}) {
			t.Errorf("P6.3: a memory that was made has %d accesses, of which the last is %+v", m.Count(), m.Last())
		}
		for cell, word := range words {
			if got := m.Load(chart.At(c, cell)); got != word {
				t.Errorf("P6.1: of %+v, cell %d has %d, not %d", c, cell, got, word)
			}
		}
	}
}

func TestOfTakesJustAsManyWordsAsThereAreCells(t *testing.T) {
	for _, c := range someWorlds() {
		for n := range 80 {
			m, e := Of(c, make([]uint64, n))
			if n == chart.Len(c) {
				continue
			}
			if e != api.ErrArg || m != nil {
				t.Errorf("P6.1: Of(%+v, %d words) tells %v %d", c, n, m, e)
			}
		}
		if m, e := Of(c, nil); e != api.ErrArg || m != nil {
			t.Errorf("P6.1: Of(%+v, nil) tells %v %d", c, m, e)
		}
		// Room behind the words is no word.
		if m, e := Of(c, make([]uint64, chart.Len(c)-1, 100)); e != api.ErrArg || m != nil {
			t.Errorf("P6.1: Of(%+v, too few words) tells %v %d", c, m, e)
		}
	}
}

func TestWrongWorldsAreRefused(t *testing.T) {
	for _, c := range wrongWorlds() {
		if m, e := New(c); e != api.ErrArg || m != nil {
			t.Errorf("P6.1: New(%+v) tells %v %d", c, m, e)
		}
		for n := range 80 {
			if m, e := Of(c, make([]uint64, n)); e != api.ErrArg || m != nil {
				t.Errorf("P6.1: Of(%+v, %d words) tells %v %d", c, n, m, e)
			}
		}
		if m, e := Of(c, nil); e != api.ErrArg || m != nil {
			t.Errorf("P6.1: Of(%+v, nil) tells %v %d", c, m, e)
		}
	}
}

// Each kind of access, of each cell, over words of all sizes: what it tells,
// what it leaves behind, and that no other cell is changed.
func TestAccesses(t *testing.T) {
	for _, c := range someWorlds() {
		for cell := range chart.Len(c) {
			for _, word := range anyWords {
				for _, a := range anyWords {
					for _, d := range deeds(a, word^a+3) {
						oneAccess(t, c, cell, word, d)
					}
				}
			}
		}
	}
}

func oneAccess(t *testing.T, c api.Config, cell int, word uint64, d deed) {
	t.Helper()
	words := distinct(c)
	words[cell] = word
	m, s := made(t, c, words), chart.At(c, cell)
	if got, want := d.do(m, s), d.tell(word); got != want {
		t.Errorf("P6.2: %s of %v, which has %d, tells %d, not %d", d.name, s, word, got, want)
	}
	words[cell] = d.turn(word)
	for i, got := range m.Cells() {
		if i == cell && got != words[i] {
			t.Errorf("P6.2: %s of %v, which has %d, leaves %d, not %d", d.name, s, word, got, words[i])
		}
		if i != cell && got != words[i] {
			t.Errorf("P6.4: %s of cell %d changes cell %d from %d to %d", d.name, cell, i, words[i], got)
		}
	}
	want := Touch{Kind: d.kind, Spot: s, Old: word, New: d.turn(word), Done: d.done(word)}
	if m.Count() != 1 || m.Last() != want {
		t.Errorf("P6.3: behind one %s: %d accesses, the last %+v, not %+v", d.name, m.Count(), m.Last(), want)
	}
}

func TestSwapByTheSameWord(t *testing.T) {
	for _, word := range anyWords {
		m, s := made(t, someWorld(), make([]uint64, 18)), chart.Spot{Kind: chart.Key, Of: 1}
		m.Store(s, word)
		if !m.Swap(s, word, word) || m.Load(s) != word {
			t.Errorf("P6.2: Swap of %d by itself is true, and leaves %d", word, m.Load(s))
		}
	}
}

func TestAddGoesRound(t *testing.T) {
	m, _ := New(someWorld())
	tally := chart.Spot{Kind: chart.Tally}
	for _, x := range []struct{ by, was, is uint64 }{
		{1<<64 - 1, 0, 1<<64 - 1}, {1, 1<<64 - 1, 0}, {1 << 63, 0, 1 << 63}, {1 << 63, 1 << 63, 0}, {5, 0, 5}, {1<<64 - 8, 5, 1<<64 - 3}, {3, 1<<64 - 3, 0},
	} {
		if was := m.Add(tally, x.by); was != x.was {
			t.Errorf("P6.2: Add(%d) tells %d, not %d", x.by, was, x.was)
		}
		if is := m.Load(tally); is != x.is {
			t.Errorf("P6.2: Add(%d) to %d leaves %d, not %d", x.by, x.was, is, x.is)
		}
	}
}

func TestNowhere(t *testing.T) {
	for _, c := range someWorlds() {
		words := distinct(c)
		m, count := made(t, c, words), 0
		for _, s := range nowhere(c) {
			for _, a := range []uint64{0, 1, 1000, 1<<64 - 1} {
				for _, d := range deeds(a, 9) {
					if got := d.do(m, s); got != 0 {
						t.Errorf("P6.2: %s of %v, which stands nowhere, tells %d", d.name, s, got)
					}
					count++
					if m.Count() != count || m.Last() != (Touch{Kind: d.kind, Spot: s}) {
						t.Errorf("P6.3: behind %s of %v, which stands nowhere: %d accesses, not %d, the last %+v", d.name, s, m.Count(), count, m.Last())
					}
				}
			}
		}
		if got := m.Cells(); !slices.Equal(got, words) {
			t.Errorf("P6.2: accesses of what stands nowhere leave %d, not %d", got, words)
		}
	}
}

// Accesses one behind the other, held against words that a test keeps itself.
func TestManyAccesses(t *testing.T) {
	for _, c := range someWorlds() {
		m, words := made(t, c, distinct(c)), distinct(c)
		spots := nowhere(c)
		for cell := range words {
			spots = append(spots, chart.At(c, cell))
		}
		w := uint64(0x9E3779B97F4A7C15)
		for i := range 2000 {
			w ^= w << 13
			w ^= w >> 7
			w ^= w << 17
			s := spots[w>>32%uint64(len(spots))]
			d := deeds(w>>20%3, w>>24%3)[w%4]
			want, last := uint64(0), Touch{Kind: d.kind, Spot: s}
			if cell := chart.Cell(c, s); cell >= 0 {
				word := words[cell]
				words[cell] = d.turn(word)
				want, last = d.tell(word), Touch{Kind: d.kind, Spot: s, Old: word, New: words[cell], Done: d.done(word)}
			}
			if got := d.do(m, s); got != want {
				t.Fatalf("P6.2: access %d, %s of %v, tells %d, not %d", i+1, d.name, s, got, want)
			}
			if m.Count() != i+1 || m.Last() != last {
				t.Fatalf("P6.3: behind access %d: %d accesses, the last %+v, not %+v", i+1, m.Count(), m.Last(), last)
			}
			if got := m.Cells(); !slices.Equal(got, words) {
				t.Fatalf("P6.4: behind access %d, %s of %v: %d, not %d", i+1, d.name, s, got, words)
			}
		}
	}
}

func TestTellingIsNoAccess(t *testing.T) {
	m, _ := New(someWorld())
	s := chart.Spot{Kind: chart.Pin, Of: 1}
	m.Add(s, 3)
	for range 3 {
		m.Config()
		m.Cells()
		m.Count()
		m.Last()
	}
	if m.Count() != 1 || m.Last() != (Touch{Kind: Adds, Spot: s, New: 3, Done: true}) {
		t.Errorf("P6.3: what tells is no access: %d, the last %+v", m.Count(), m.Last())
	}
}

func TestWordsAreAMemorysOwn(t *testing.T) {
	c := someWorld()
	given := distinct(c)
	m, other := made(t, c, given), made(t, c, given)
	told := m.Cells()
	for cell := range told {
		m.Store(chart.At(c, cell), 1)
	}
	if !slices.Equal(given, distinct(c)) {
		t.Error("P6.1: accesses change the words that were given")
	}
	if !slices.Equal(told, distinct(c)) {
		t.Error("P6.3: accesses change words that were told")
	}
	if !slices.Equal(other.Cells(), distinct(c)) || other.Count() != 0 || other.Last() != (Touch{}) {
		t.Error("P6.4: accesses of one memory change another one")
	}
	clear(given)
	clear(told)
	clear(other.Cells())
	if !slices.Equal(other.Cells(), distinct(c)) {
		t.Error("P6.1: to write into what was given, or told, changes a memory")
	}
	if !slices.Equal(m.Cells(), slices.Repeat([]uint64{1}, len(given))) {
		t.Error("P6.3: to write into what was told changes a memory")
	}
}
