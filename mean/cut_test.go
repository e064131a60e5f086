package mean_test

import (
	"math"
	"slices"
	"testing"

	"leat/api"
	"leat/job"
	"leat/mean"
)

const none = math.MinInt64 // the watermark where there is none

// TestOffsets: how offsets count.
func TestOffsets(t *testing.T) {
	j, l := given(t, []api.Node{sink(1, 1), source(2), sink(1, 3), source(1)},
		[][]api.Item{{rec(1, 1, 1), mark(5), rec(1, 9, 1)}, {rec(2, 1, 1), rec(2, 2, 1)}},
		[][]api.Item{{rec(3, 1, 1), mark(7), mark(4)}})
	a, b, c, d, e := record(1, 1, 1), record(1, 9, 1), record(2, 1, 1), record(2, 2, 1), record(3, 1, 1)
	for _, o := range []struct {
		offsets     [][]int
		first, last []api.Record
		marks       [3]int64
	}{
		{nil, []api.Record{a, b, c, d}, []api.Record{e}, [3]int64{5, none, 7}},
		{[][]int{{0, 0, 0}}, []api.Record{a, b, c, d}, []api.Record{e}, [3]int64{5, none, 7}},
		{[][]int{nil, {0, 0}, {9}, {0}}, nil, nil, [3]int64{none, none, none}},
		{[][]int{nil, {-1, math.MinInt}, nil, {-5}}, nil, nil, [3]int64{none, none, none}},
		{[][]int{nil, {4, math.MaxInt}, nil, {99}}, []api.Record{a, b, c, d}, []api.Record{e}, [3]int64{5, none, 7}},
		{[][]int{nil, {3, 2}, nil, {3}}, []api.Record{a, b, c, d}, []api.Record{e}, [3]int64{5, none, 7}},
		{[][]int{nil, {1, 1}, nil, {1}}, []api.Record{a, c}, []api.Record{e}, [3]int64{none, none, none}},
		{[][]int{nil, {2}, nil, {2}}, []api.Record{a, c, d}, []api.Record{e}, [3]int64{5, none, 7}},
		{[][]int{{}, {}, {}}, []api.Record{a, b, c, d}, []api.Record{e}, [3]int64{5, none, 7}},
		{[][]int{nil, {1, 0, 0, 0}, nil, {0, 9}, {1}, {2}}, []api.Record{a}, nil, [3]int64{none, none, none}},
	} {
		cut := mean.Cut(j, l, o.offsets)
		if len(cut) != 4 || !slices.Equal(cut[1], o.first) || !slices.Equal(cut[0], o.first) || !slices.Equal(cut[3], o.last) || !slices.Equal(cut[2], o.last) {
			t.Errorf("P14.3: Cut at %v: %v", o.offsets, cut)
		}
		marks := mean.Marks(j, l, o.offsets)
		least := min(o.marks[0], o.marks[1])
		if len(marks) != 4 || !slices.Equal(marks[1], o.marks[:2]) || !slices.Equal(marks[3], o.marks[2:]) || !slices.Equal(marks[0], []int64{least}) || !slices.Equal(marks[2], o.marks[2:]) {
			t.Errorf("P14.3: Marks at %v: %v", o.offsets, marks)
		}
	}
}

// TestMarks: along plan's channels: between parts of one number, or of all.
func TestMarks(t *testing.T) {
	j, l := given(t, []api.Node{
		source(3), source(3),
		union(3, 0, 1),
		by(api.NodeMap, val, 3, 2),
		by(api.NodeFilter, val, 2, 3),
		windowed(tumbling(5), api.AggSum, 3, 2),
		reduce(api.AggSum, 3, 0),
		sink(3, 5), sink(3, 1), sink(1, 2), sink(4, 6),
	}, [][]api.Item{{mark(4)}, {mark(9), mark(3)}, {mark(end)}},
		[][]api.Item{{mark(6)}, {mark(5)}, {rec(1, 1, 1), mark(7), mark(8), mark(-3)}})
	want := [][]int64{
		{4, 9, end}, {6, 5, 8},
		{4, 5, 8},
		{4, 5, 8},
		{4, 4},
		{4, 4, 4},
		{4, 4, 4},
		{4, 4, 4}, {6, 5, 8}, {4}, {4, 4, 4, 4},
	}
	got := mean.Marks(j, l, nil)
	if len(got) != len(want) {
		t.Fatalf("P14.3: %v", got)
	}
	for i := range want {
		same(t, "P14.3: the marks of a node", got[i], want[i]...)
	}
	got = mean.Marks(j, l, [][]int{{1, 1, 0}, {1, 1, 2}})
	same(t, "P14.3: of a source", got[1], 6, 5, 7)
	same(t, "P14.3: of a part that feeds the same part alone", got[3], 4, 5, none)
	same(t, "P14.3: of a part that all feed", got[4], none, none)
}

// TestFired: a pane comes out by the watermark that is its last time, not by the one ahead of it.
func TestFired(t *testing.T) {
	j, l := given(t, []api.Node{
		source(1),
		windowed(tumbling(10), api.AggSum, 2, 0),
		windowed(sliding(10, 5), api.AggSum, 2, 0),
		windowed(session(4), api.AggCount, 1, 0),
		reduce(api.AggMax, 2, 0),
		sink(1, 1),
	}, [][]api.Item{{rec(1, 6, 2), mark(8), rec(1, 9, 3), rec(2, 30, 1), mark(9), mark(12), mark(14), mark(33), mark(1 << 40), mark(end)}})
	at := func(n int) ([][]api.Record, [][]api.Pane) {
		return mean.Cut(j, l, [][]int{{n}}), mean.Left(j, l, [][]int{{n}})
	}
	cut, left := at(4) // mark 8
	same(t, "P14.3: tumbling, at 8", cut[1])
	same(t, "P14.3: tumbling, at 8", left[1], pane(1, 0, 10, 5), pane(2, 30, 40, 1))
	same(t, "P14.3: sliding, at 8", cut[2])
	same(t, "P14.3: sliding, at 8", left[2], pane(1, 0, 10, 5), pane(1, 5, 15, 5), pane(2, 25, 35, 1), pane(2, 30, 40, 1))
	same(t, "P14.3: a session, at 8", left[3], pane(1, 6, 13, 2), pane(2, 30, 34, 1))
	same(t, "P14.3: a reduce, at 8", left[4], reduced(1, 3), reduced(2, 1))
	cut, left = at(5) // mark 9
	same(t, "P14.3: tumbling, at 9", cut[1], record(1, 9, 5))
	same(t, "P14.3: tumbling, at 9", left[1], pane(2, 30, 40, 1))
	same(t, "P14.3: sliding, at 9", cut[2], record(1, 9, 5))
	same(t, "P14.3: a session, at 9: its first record's last time is over, its own isn't", cut[3])
	same(t, "P14.3: the sink, at 9", cut[5], record(1, 9, 5))
	cut, left = at(6) // mark 12
	same(t, "P14.3: a session, at 12", cut[3], record(1, 12, 2))
	same(t, "P14.3: a session, at 12", left[3], pane(2, 30, 34, 1))
	cut, left = at(9) // mark 2^40
	same(t, "P14.3: tumbling, at the last time", cut[1], record(1, 9, 5), record(2, 39, 1))
	same(t, "P14.3: tumbling, at the last time", left[1])
	same(t, "P14.3: a reduce, at the last time", cut[4])
	same(t, "P14.3: a reduce, at the last time", left[4], reduced(1, 3), reduced(2, 1))
	cut, left = at(10)
	same(t, "P14.3: a reduce, at the end", cut[4], record(1, 1<<41, 3), record(2, 1<<41, 1))
	for _, l := range left {
		same(t, "P14.3: at the end nothing is left", l)
	}
}

// TestBehind: windows and reduces behind others have what came out of those.
func TestBehind(t *testing.T) {
	j, l := given(t, []api.Node{
		source(2),
		windowed(tumbling(5), api.AggSum, 2, 0),
		windowed(tumbling(10), api.AggCount, 2, 1),
		reduce(api.AggSum, 1, 1),
		reduce(api.AggCount, 2, 3),
		sink(1, 2),
	}, [][]api.Item{{rec(1, 1, 1), rec(1, 6, 2), rec(1, 7, 3), mark(4), mark(9), mark(end)}, {mark(5), mark(end)}})
	cut, left := mean.Cut(j, l, [][]int{{5, 1}}), mean.Left(j, l, [][]int{{5, 1}}) // marks 9 and 5
	same(t, "P14.3: the first window", cut[1], record(1, 4, 1))
	same(t, "P14.3: the first window", left[1], pane(1, 5, 10, 5))
	same(t, "P14.3: the second window", cut[2])
	same(t, "P14.3: the second window", left[2], pane(1, 0, 10, 1))
	same(t, "P14.3: the first reduce", left[3], reduced(1, 1))
	same(t, "P14.3: the second reduce", left[4])
	cut, left = mean.Cut(j, l, nil), mean.Left(j, l, nil)
	same(t, "P14.3: the second window", cut[2], record(1, 9, 2))
	same(t, "P14.3: the second reduce", cut[4], record(1, 1<<41, 1))
	for i, p := range left {
		if len(p) != 0 {
			t.Errorf("P14.3: of node %d is left %v", i, p)
		}
	}
}

// TestLateWithin: a record is late by what its own partition has read, though the node's watermark is lower; and not late, though another partition's is higher.
func TestLateWithin(t *testing.T) {
	j, l := given(t, []api.Node{source(2), windowed(tumbling(10), api.AggSum, 1, 0), sink(1, 1)},
		[][]api.Item{{mark(20), rec(1, 5, 1), rec(1, 25, 2)}, {rec(1, 5, 4), mark(-5), rec(1, 6, 8)}})
	same(t, "P14.3: the source", mean.Cut(j, l, nil)[0], record(1, 5, 4), record(1, 6, 8), record(1, 25, 2))
	same(t, "P14.3: the window", mean.Left(j, l, nil)[1], pane(1, 0, 10, 12), pane(1, 20, 30, 2))
	same(t, "P14.3: its marks", mean.Marks(j, l, nil)[1], -5)
}

// TestRefused: of a job or logs that are refused all answers are none.
func TestRefused(t *testing.T) {
	good := api.Job{Nodes: []api.Node{source(1), sink(1, 0)}}
	logs := api.Logs{{{rec(1, 1, 1), mark(end)}}, nil}
	if len(mean.All(good, logs)) != 2 || len(mean.Left(good, logs, nil)) != 2 {
		t.Error("P14.2: a job that is taken")
	}
	many := api.Job{Nodes: slices.Repeat([]api.Node{source(1)}, 13)}
	for _, j := range []api.Job{
		{}, many,
		{Nodes: []api.Node{{Kind: 9, Par: 1}, sink(1, 0)}},
		{Nodes: []api.Node{source(1), sink(1, 7)}},
		{Nodes: []api.Node{source(5), sink(1, 0)}},
		{Nodes: []api.Node{source(1), union(1, 1), sink(1, 1)}},
		{Nodes: []api.Node{source(1), by(api.NodeMap, api.Expr{}, 1, 0), sink(1, 1)}},
		{Nodes: []api.Node{source(1), reduce(9, 1, 0), sink(1, 1)}},
		{Nodes: []api.Node{source(1), windowed(tumbling(0), 1, 1, 0), sink(1, 1)}},
		{Nodes: []api.Node{source(1), windowed(sliding(65, 1), 1, 1, 0), sink(1, 1)}},
		{Nodes: []api.Node{source(1)}},
	} {
		if job.Check(j) == api.OK {
			t.Fatalf("%v is taken", j)
		}
		l := make(api.Logs, len(j.Nodes))
		for i, n := range j.Nodes {
			if n.Kind == api.NodeSource {
				l[i] = slices.Repeat([][]api.Item{{rec(1, 1, 1)}}, n.Par)
			}
		}
		nothing(t, j, l)
	}
	for _, l := range []api.Logs{
		nil, {}, logs[:1], append(slices.Clone(logs), nil),
		{nil, nil}, {{nil, nil}, nil}, {{nil}, {nil}},
		{{{{Kind: 3}}}, nil},
		{{{rec(1, 1<<40+1, 1)}}, nil}, {{{rec(1, -1<<40-1, 1)}}, nil},
		{{{mark(1<<40 + 1)}}, nil}, {{{mark(none)}}, nil}, {{{mark(end - 1)}}, nil},
		{{{{Kind: api.ItemMark, Rec: record(1, 0, 0)}}}, nil}, {{{{Kind: api.ItemRecord, Mark: 1}}}, nil},
		{{slices.Repeat(items(mark(1)), 4097)}, nil},
	} {
		if job.Logs(good, l) == api.OK {
			t.Fatalf("%v are taken", l)
		}
		nothing(t, good, l)
	}
}

func nothing(t *testing.T, j api.Job, l api.Logs) {
	t.Helper()
	for _, offsets := range [][][]int{nil, {{0}}, {{1}, {1}}, {{-1, 2}}} {
		if len(mean.All(j, l)) != 0 || len(mean.Cut(j, l, offsets)) != 0 || len(mean.Marks(j, l, offsets)) != 0 || len(mean.Left(j, l, offsets)) != 0 {
			t.Errorf("P14: of %v, %v, %v comes something", j, l, offsets)
		}
	}
}

// TestReadme: what README.md tells.
func TestReadme(t *testing.T) {
	j, l := given(t, []api.Node{source(1), windowed(tumbling(10), api.AggSum, 2, 0), sink(1, 1)},
		[][]api.Item{{rec(1, 5, 2), rec(2, 12, 4), mark(9), rec(1, 7, 3), mark(end)}})
	same(t, "the sink", mean.All(j, l)[2], record(1, 9, 2), record(2, 19, 4))
	offsets := [][]int{{3}}
	same(t, "the sink's cut", mean.Cut(j, l, offsets)[2], record(1, 9, 2))
	same(t, "the window's marks", mean.Marks(j, l, offsets)[1], 9, 9)
	same(t, "the window's panes", mean.Left(j, l, offsets)[1], pane(2, 10, 20, 4))
	if !mean.Within(mean.Cut(j, l, offsets)[2], mean.All(j, l)[2]) {
		t.Error("the cut isn't within the meaning")
	}
}
