package gate_test

import (
	"math"
	"slices"
	"testing"

	"leat/api"
	"leat/gate"
)

func record(key int64) api.Frame {
	return api.Frame{Kind: api.FrameRecord, Rec: api.Record{Key: key, Time: key + 1, Val: key + 2}}
}

func mark(m int64) api.Frame { return api.Frame{Kind: api.FrameMark, Mark: m} }

func aligned(n uint64) api.Frame { return api.Frame{Kind: api.FrameBarrier, N: n} }

func unaligned(n uint64) api.Frame { return api.Frame{Kind: api.FrameBarrier, N: n, Over: true} }

func out(ch int, f api.Frame) api.Out { return api.Out{Channel: ch, F: f} }

var none = api.Step{}

func works(key int64) api.Step { return api.Step{Kind: api.StepRecord, Rec: record(key).Rec} }

func rises(m int64) api.Step { return api.Step{Kind: api.StepMark, Mark: m} }

func keeps(n uint64) api.Step { return api.Step{Kind: api.StepBarrier, N: n} }

func full(n uint64) api.Step { return api.Step{Full: n} }

func both(n uint64) api.Step { return api.Step{Kind: api.StepBarrier, N: n, Full: n} }

func tells(t *testing.T, what string, g *gate.Gate, ch int, f api.Frame, want api.Step) {
	t.Helper()
	if s, e := g.Take(ch, f); s != want || e != api.OK {
		t.Errorf("%s: Take(%d, %+v): %+v, %v, wanted %+v", what, ch, f, s, e, want)
	}
}

// allKinds: a frame of each kind, and of none.
func allKinds() []api.Frame {
	return []api.Frame{record(1), mark(1 << 50), aligned(1 << 50), unaligned(1 << 50), {}, {Kind: 9}, {Kind: -1}}
}

// refuses: whatever frame it is; and nothing changes.
func refuses(t *testing.T, what string, g *gate.Gate, ch int) {
	t.Helper()
	was := look(g)
	for _, f := range allKinds() {
		if s, e := g.Take(ch, f); s != none || e != api.ErrGateChannel {
			t.Errorf("%s: Take(%d, %+v): %+v, %v, wanted %v", what, ch, f, s, e, api.ErrGateChannel)
		}
	}
	was.same(t, what, g)
}

// looked: all that a gate tells of itself.
type looked struct {
	under, last uint64
	mark        int64
	marks       []int64
	blocked     []bool
	captured    []api.Out
}

func look(g *gate.Gate) looked {
	l := looked{under: g.Under(), last: g.Last(), mark: g.Mark(), marks: g.Marks(), captured: g.Captured()}
	for ch := range l.marks {
		l.blocked = append(l.blocked, g.Blocked(ch))
	}
	return l
}

func (l looked) same(t *testing.T, what string, g *gate.Gate) {
	t.Helper()
	got := look(g)
	if got.under != l.under || got.last != l.last || got.mark != l.mark || !slices.Equal(got.marks, l.marks) || !slices.Equal(got.blocked, l.blocked) || !slices.Equal(got.captured, l.captured) {
		t.Errorf("%s: %+v, wanted %+v", what, got, l)
	}
}

func has(t *testing.T, what string, g *gate.Gate, under, last uint64, captured ...api.Out) {
	t.Helper()
	if g.Under() != under || g.Last() != last {
		t.Errorf("%s: Under %d, Last %d, wanted %d, %d", what, g.Under(), g.Last(), under, last)
	}
	if got := g.Captured(); !slices.Equal(got, captured) {
		t.Errorf("%s: Captured %+v, wanted %+v", what, got, captured)
	}
}

// blocks: just these channels are blocked.
func blocks(t *testing.T, what string, g *gate.Gate, want ...int) {
	t.Helper()
	for ch := -2; ch < len(g.Marks())+2; ch++ {
		if g.Blocked(ch) != slices.Contains(want, ch) {
			t.Errorf("%s: Blocked(%d): %v", what, ch, g.Blocked(ch))
		}
	}
}

func marks(t *testing.T, what string, g *gate.Gate, want ...int64) {
	t.Helper()
	if got := g.Marks(); !slices.Equal(got, want) || g.Mark() != slices.Min(want) {
		t.Errorf("%s: Marks %v, Mark %d, wanted %v", what, got, g.Mark(), want)
	}
}

func TestNumberOfError(t *testing.T) {
	if api.ErrGateChannel != 150 {
		t.Error("P15.1: the number of the error")
	}
}

func TestExamples(t *testing.T) {
	g := gate.New(2)
	tells(t, "aligned", g, 0, aligned(1), none)
	blocks(t, "aligned", g, 0)
	tells(t, "aligned", g, 1, record(3), works(3))
	tells(t, "aligned", g, 1, aligned(1), both(1))
	g = gate.New(2)
	tells(t, "unaligned", g, 0, unaligned(1), keeps(1))
	tells(t, "unaligned", g, 1, record(3), works(3))
	tells(t, "unaligned", g, 1, unaligned(1), full(1))
	has(t, "unaligned", g, 0, 1, out(1, record(3)))
}

func TestNew(t *testing.T) {
	for channels, want := range map[int]int{math.MinInt: 1, -1: 1, 0: 1, 1: 1, 2: 2, 63: 63, 64: 64, 65: 64, math.MaxInt: 64} {
		g := gate.New(channels)
		if got := len(g.Marks()); got != want {
			t.Errorf("P15: New(%d): %d channels, wanted %d", channels, got, want)
		}
		marks(t, "P15: at first", g, slices.Repeat([]int64{math.MinInt64}, want)...)
		has(t, "P15: at first", g, 0, 0)
		blocks(t, "P15: at first", g)
		for _, ch := range []int{math.MinInt, -1, want, want + 1, math.MaxInt} {
			refuses(t, "P15.1: no such channel", g, ch)
			if g.Blocked(ch) {
				t.Errorf("P15.2: Blocked(%d) of %d channels", ch, want)
			}
		}
		tells(t, "P15.1: the last channel", g, want-1, record(1), works(1))
	}
}

func TestRecords(t *testing.T) {
	g := gate.New(2)
	whole := api.Frame{Kind: api.FrameRecord, Rec: api.Record{Key: math.MinInt64, Time: -5, Val: math.MaxInt64}, Mark: 9, N: 7, Over: true}
	want := api.Step{Kind: api.StepRecord, Rec: whole.Rec}
	tells(t, "P15.1: the record alone", g, 0, whole, want)
	has(t, "P15.1: no checkpoint by a record", g, 0, 0)
	marks(t, "P15.1: no mark by a record", g, math.MinInt64, math.MinInt64)
	tells(t, "P15.1", g, 0, unaligned(1), keeps(1))
	tells(t, "P15.1: a captured record is told, too", g, 1, whole, want)
	has(t, "P15.1: captured as it came", g, 1, 1, out(1, whole))
	tells(t, "P15.1: zeros", g, 0, api.Frame{Kind: api.FrameRecord}, api.Step{Kind: api.StepRecord})
}

func TestMarks(t *testing.T) {
	g := gate.New(3)
	tells(t, "P15.1: not above the first one", g, 0, mark(math.MinInt64), none)
	tells(t, "P15.1: others are lower", g, 0, mark(5), none)
	tells(t, "P15.1: another one is lower", g, 1, mark(math.MinInt64+1), none)
	tells(t, "P15.1: the least one of all", g, 2, mark(7), rises(math.MinInt64+1))
	tells(t, "P15.1: the least one, not the one that came", g, 1, mark(6), rises(5))
	tells(t, "P15.1: the same", g, 0, mark(5), none)
	tells(t, "P15.1: below", g, 0, mark(4), none)
	marks(t, "P15.1: it never falls", g, 5, 6, 7)
	tells(t, "P15.1", g, 0, mark(math.MaxInt64), rises(6))
	tells(t, "P15.1", g, 2, mark(math.MaxInt64), none)
	tells(t, "P15.1: the greatest one", g, 1, mark(math.MaxInt64), rises(math.MaxInt64))
	tells(t, "P15.1: nothing is above", g, 1, mark(math.MaxInt64), none)
	marks(t, "P15.2", g, math.MaxInt64, math.MaxInt64, math.MaxInt64)
	has(t, "P15.1: nothing is captured without a checkpoint", g, 0, 0)
	two := gate.New(2)
	tells(t, "P15.1", two, 0, mark(5), none)
	tells(t, "P15.1", two, 1, mark(5), rises(5))
	tells(t, "P15.1: the other one stays", two, 1, mark(6), none)
	whole := api.Frame{Kind: api.FrameMark, Rec: record(1).Rec, Mark: 6, N: 7, Over: true}
	tells(t, "P15.1: the mark alone", two, 0, whole, rises(6))
	has(t, "P15.1: no checkpoint by a mark", two, 0, 0)
	one := gate.New(1)
	tells(t, "P15.1: one channel", one, 0, mark(-3), rises(-3))
	tells(t, "P15.1: one channel", one, 0, mark(0), rises(0))
}

func TestOtherKinds(t *testing.T) {
	g := gate.New(2)
	g.Take(0, unaligned(3))
	g.Take(1, record(1))
	was := look(g)
	for _, kind := range []int{math.MinInt, -1, 0, 4, 5, 1<<32 + 1, math.MaxInt} {
		for ch := range 2 {
			tells(t, "P15.1: no kind", g, ch, api.Frame{Kind: kind, Rec: record(5).Rec, Mark: 5, N: 9, Over: true}, none)
		}
	}
	was.same(t, "P15.1: no kind", g)
}

func TestAligned(t *testing.T) {
	g := gate.New(3)
	tells(t, "P15.1: the first barrier", g, 1, aligned(4), none)
	has(t, "P15.1: the first barrier", g, 4, 4)
	blocks(t, "P15.1: the first barrier", g, 1)
	refuses(t, "P15.1: blocked", g, 1)
	tells(t, "P15.1: not blocked", g, 0, record(2), works(2))
	tells(t, "P15.1: not blocked", g, 0, mark(5), none)
	has(t, "P15.1: an aligned one captures nothing", g, 4, 4)
	tells(t, "P15.1: Over counts of the first one alone", g, 0, unaligned(4), none)
	blocks(t, "P15.1: the second barrier", g, 0, 1)
	refuses(t, "P15.1: blocked", g, 0)
	tells(t, "P15.1: not blocked", g, 2, mark(8), none)
	tells(t, "P15.1: a mark meanwhile", g, 2, record(3), works(3))
	tells(t, "P15.1: the last barrier", g, 2, aligned(4), both(4))
	has(t, "P15.1: the last barrier", g, 0, 4)
	blocks(t, "P15.1: the last barrier", g)
	for ch := range 3 {
		tells(t, "P15.1: it was met", g, ch, aligned(4), none)
		tells(t, "P15.1: it was met", g, ch, unaligned(4), none)
		tells(t, "P15.1: below", g, ch, aligned(3), none)
	}
	has(t, "P15.1: it was met", g, 0, 4)
	tells(t, "P15.1: the next one", g, 2, aligned(5), none)
	blocks(t, "P15.1: the next one", g, 2)
}

func TestUnaligned(t *testing.T) {
	g := gate.New(3)
	tells(t, "P15.1: the first barrier", g, 1, unaligned(4), keeps(4))
	has(t, "P15.1: the first barrier", g, 4, 4)
	blocks(t, "P15.1: none is blocked", g)
	tells(t, "P15.1: it has come", g, 1, unaligned(4), none)
	tells(t, "P15.1: it has come", g, 1, aligned(4), none)
	tells(t, "P15.1: behind its barrier", g, 1, record(1), works(1))
	tells(t, "P15.1: behind its barrier", g, 1, mark(9), none)
	has(t, "P15.1: behind its barrier nothing is captured", g, 4, 4)
	tells(t, "P15.1: ahead of it", g, 0, record(2), works(2))
	tells(t, "P15.1: ahead of it", g, 2, mark(6), none)
	tells(t, "P15.1: below", g, 2, mark(3), none)
	tells(t, "P15.1: all have one", g, 0, mark(7), rises(6))
	tells(t, "P15.1: ahead of it", g, 2, record(2), works(2))
	tells(t, "P15.1: an elder one", g, 2, unaligned(3), none)
	tells(t, "P15.1: none", g, 2, unaligned(0), none)
	want := []api.Out{out(0, record(2)), out(2, mark(6)), out(2, mark(3)), out(0, mark(7)), out(2, record(2))}
	has(t, "P15.1: captured", g, 4, 4, want...)
	tells(t, "P15.1: Over counts of the first one alone", g, 2, aligned(4), none)
	blocks(t, "P15.1: none is blocked", g)
	tells(t, "P15.1: behind its barrier", g, 2, record(5), works(5))
	has(t, "P15.1: captured", g, 4, 4, want...)
	tells(t, "P15.1: the last barrier", g, 0, unaligned(4), full(4))
	has(t, "P15.2: full", g, 0, 4, want...)
	for ch := range 3 {
		tells(t, "P15.1: it was met", g, ch, unaligned(4), none)
		tells(t, "P15.1: no more of it", g, ch, record(8), works(8))
		tells(t, "P15.1: none", g, ch, aligned(0), none)
	}
	has(t, "P15.2: full", g, 0, 4, want...)
}

func TestOneChannel(t *testing.T) {
	g := gate.New(1)
	tells(t, "P15.1: aligned", g, 0, aligned(1), both(1))
	has(t, "P15.1: aligned", g, 0, 1)
	tells(t, "P15.1: unaligned", g, 0, unaligned(2), both(2))
	tells(t, "P15.1: nothing is captured", g, 0, record(1), works(1))
	has(t, "P15.1: unaligned", g, 0, 2)
	blocks(t, "P15.1", g)
	tells(t, "P15.1: none", g, 0, unaligned(0), none)
	tells(t, "P15.1: it was met", g, 0, unaligned(2), none)
	tells(t, "P15.1: others between are passed over", g, 0, aligned(math.MaxUint64), both(math.MaxUint64))
	tells(t, "P15.1: nothing is above", g, 0, unaligned(math.MaxUint64), none)
	tells(t, "P15.1: none", g, 0, aligned(0), none)
	has(t, "P15.1: the greatest one", g, 0, math.MaxUint64)
}

// TestNoNumber: 0 is no checkpoint, though Under and Last are 0, too.
func TestNoNumber(t *testing.T) {
	for channels := 1; channels < 4; channels++ {
		g := gate.New(channels)
		was := look(g)
		for ch := range channels {
			tells(t, "P15.1: none", g, ch, aligned(0), none)
			tells(t, "P15.1: none", g, ch, unaligned(0), none)
		}
		was.same(t, "P15.1: none", g)
	}
}

// TestGivenUp: a higher one comes while one is under way, each of each kind.
func TestGivenUp(t *testing.T) {
	for _, first := range []bool{false, true} {
		for _, second := range []bool{false, true} {
			g := gate.New(3)
			g.Take(0, api.Frame{Kind: api.FrameBarrier, N: 3, Over: first})
			g.Take(1, record(1))
			g.Take(1, mark(4))
			s, e := g.Take(1, api.Frame{Kind: api.FrameBarrier, N: 7, Over: second})
			want := none
			if second {
				want = keeps(7)
			} else {
				refuses(t, "P15.1: blocked", g, 1)
			}
			if s != want || e != api.OK {
				t.Errorf("P15.1: given up: %+v, %v, wanted %+v", s, e, want)
			}
			has(t, "P15.1: given up", g, 7, 7)
			tells(t, "P15.1: the one that was given up", g, 2, aligned(3), none)
			tells(t, "P15.1: the one that was given up", g, 0, unaligned(3), none)
			tells(t, "P15.1: one between", g, 0, unaligned(5), none)
			tells(t, "P15.1: not blocked any more", g, 0, record(2), works(2))
			if second {
				blocks(t, "P15.1: given up", g)
				has(t, "P15.1: its own alone", g, 7, 7, out(0, record(2)))
			} else {
				blocks(t, "P15.1: given up", g, 1)
				has(t, "P15.1: its own alone", g, 7, 7)
			}
			tells(t, "P15.1: its barriers", g, 2, unaligned(7), none)
			if want = both(7); second {
				want = full(7)
			}
			tells(t, "P15.1: all of its barriers are its own", g, 0, aligned(7), want)
			has(t, "P15.1: whole", g, 0, 7, g.Captured()...)
		}
	}
}

// TestGivenUpBySameChannel: of an unaligned one also a channel whose barrier has come may tell the next one.
func TestGivenUpBySameChannel(t *testing.T) {
	g := gate.New(2)
	tells(t, "P15.1", g, 0, unaligned(1), keeps(1))
	tells(t, "P15.1", g, 1, record(1), works(1))
	tells(t, "P15.1: the next one", g, 0, unaligned(2), keeps(2))
	has(t, "P15.1: what was captured goes", g, 2, 2)
	tells(t, "P15.1: too late", g, 1, unaligned(1), none)
	tells(t, "P15.1", g, 1, record(2), works(2))
	tells(t, "P15.1", g, 1, unaligned(2), full(2))
	has(t, "P15.1", g, 0, 2, out(1, record(2)))
}

// TestCapturedOfTheLast: till the next one begins, of whatever kind.
func TestCapturedOfTheLast(t *testing.T) {
	for _, over := range []bool{false, true} {
		g := gate.New(2)
		g.Take(0, unaligned(1))
		g.Take(1, record(1))
		g.Take(1, unaligned(1))
		has(t, "P15.2: full", g, 0, 1, out(1, record(1)))
		g.Take(0, api.Frame{Kind: api.FrameBarrier, N: 2, Over: over})
		has(t, "P15.2: the next one began", g, 2, 2)
		g.Take(1, api.Frame{Kind: api.FrameBarrier, N: 2, Over: over})
		has(t, "P15.2: the next one is whole", g, 0, 2)
	}
}

func TestLoad(t *testing.T) {
	g := gate.New(3)
	g.Load([]int64{5, 6, 7})
	marks(t, "P15.2: Load", g, 5, 6, 7)
	tells(t, "P15.2: above the least one", g, 0, mark(9), rises(6))
	tells(t, "P15.2: not above", g, 2, mark(7), none)
	g.Load([]int64{4})
	marks(t, "P15.2: missing ones", g, 4, math.MinInt64, math.MinInt64)
	g.Load([]int64{1, 2, 3, math.MinInt64, 5})
	marks(t, "P15.2: more than channels", g, 1, 2, 3)
	tells(t, "P15.2: lower than it was", g, 0, mark(2), rises(2))
	g.Load(nil)
	marks(t, "P15.2: nil", g, math.MinInt64, math.MinInt64, math.MinInt64)
	g.Load([]int64{math.MaxInt64, math.MaxInt64, math.MaxInt64, 0})
	marks(t, "P15.2: the greatest ones", g, math.MaxInt64, math.MaxInt64, math.MaxInt64)
	g.Load([]int64{})
	marks(t, "P15.2: empty", g, math.MinInt64, math.MinInt64, math.MinInt64)
}

func TestLoadGivesUp(t *testing.T) {
	for _, over := range []bool{false, true} {
		g := gate.New(2)
		barrier := func(n uint64) api.Frame { return api.Frame{Kind: api.FrameBarrier, N: n, Over: over} }
		g.Take(0, barrier(5))
		g.Take(1, record(1))
		g.Load([]int64{1, 2})
		has(t, "P15.2: Load: Last stays", g, 0, 5)
		blocks(t, "P15.2: Load", g)
		tells(t, "P15.2: not under way any more", g, 1, barrier(5), none)
		tells(t, "P15.2: not under way any more", g, 0, barrier(5), none)
		tells(t, "P15.2: nothing is captured", g, 1, record(2), works(2))
		has(t, "P15.2: Load", g, 0, 5)
		want, end := none, both(6)
		if over {
			want, end = keeps(6), full(6)
		}
		tells(t, "P15.2: the next one", g, 0, barrier(6), want)
		tells(t, "P15.2: the next one", g, 1, barrier(6), end)
	}
	g := gate.New(2)
	g.Take(0, unaligned(1))
	g.Take(1, record(1))
	g.Take(1, unaligned(1))
	g.Load(nil)
	has(t, "P15.2: what was captured of a full one goes, too", g, 0, 1)
}

// TestAllChannels: as many as there may be.
func TestAllChannels(t *testing.T) {
	g := gate.New(64)
	var captured []api.Out
	for ch := range 63 {
		tells(t, "P15.1: aligned", g, ch, aligned(1), none)
	}
	refuses(t, "P15.1: blocked", g, 62)
	tells(t, "P15.1: aligned", g, 63, aligned(1), both(1))
	tells(t, "P15.1: unaligned", g, 63, unaligned(2), keeps(2))
	for ch := range 62 {
		tells(t, "P15.1: captured", g, ch, mark(int64(ch)), none)
		tells(t, "P15.1: unaligned", g, ch, unaligned(2), none)
		captured = append(captured, out(ch, mark(int64(ch))))
	}
	tells(t, "P15.1: unaligned", g, 62, unaligned(2), full(2))
	has(t, "P15.2: unaligned", g, 0, 2, captured...)
	tells(t, "P15.1: one channel has none", g, 62, mark(5), none)
	tells(t, "P15.1: all have one", g, 63, mark(5), rises(0))
}

// TestReadme: what README.md tells of a gate.
func TestReadme(t *testing.T) {
	g := gate.New(2)
	tells(t, "readme", g, 0, mark(5), none)
	tells(t, "readme", g, 1, mark(3), rises(3))
	tells(t, "readme", g, 0, aligned(1), none)
	blocks(t, "readme", g, 0)
	tells(t, "readme", g, 1, aligned(1), both(1))
	tells(t, "readme", g, 0, unaligned(2), keeps(2))
	tells(t, "readme", g, 1, mark(8), rises(5))
	tells(t, "readme", g, 1, unaligned(2), full(2))
	has(t, "readme", g, 0, 2, out(1, mark(8)))
	marks(t, "readme", g, 5, 8)
}
