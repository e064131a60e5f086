package mean_test

import (
	"math"
	"slices"
	"testing"

	"leat/api"
	"leat/job"
	"leat/mean"
)

const end = math.MaxInt64 // the maximal watermark

var (
	key = api.Expr{Op: api.ExprKey}
	at  = api.Expr{Op: api.ExprTime}
	val = api.Expr{Op: api.ExprVal}
)

func c(n int64) api.Expr { return api.Expr{Op: api.ExprConst, N: n} }

func x(op int, l ...api.Expr) api.Expr { return api.Expr{Op: op, L: l} }

func tumbling(size int64) api.Window { return api.Window{Kind: api.WinTumbling, Size: size} }

func sliding(size, slide int64) api.Window {
	return api.Window{Kind: api.WinSliding, Size: size, Slide: slide}
}

func session(size int64) api.Window { return api.Window{Kind: api.WinSession, Size: size} }

func source(par int) api.Node { return api.Node{Kind: api.NodeSource, Par: par} }

func sink(par, in int) api.Node { return api.Node{Kind: api.NodeSink, Par: par, In: []int{in}} }

func union(par int, in ...int) api.Node { return api.Node{Kind: api.NodeUnion, Par: par, In: in} }

func by(kind int, e api.Expr, par, in int) api.Node {
	return api.Node{Kind: kind, Par: par, In: []int{in}, E: e}
}

func reduce(aggr, par, in int) api.Node {
	return api.Node{Kind: api.NodeReduce, Par: par, In: []int{in}, Agg: aggr}
}

func windowed(w api.Window, aggr, par, in int) api.Node {
	return api.Node{Kind: api.NodeWindow, Par: par, In: []int{in}, Agg: aggr, Win: w}
}

func record(key, time, val int64) api.Record { return api.Record{Key: key, Time: time, Val: val} }

func rec(key, time, val int64) api.Item {
	return api.Item{Kind: api.ItemRecord, Rec: record(key, time, val)}
}

func mark(m int64) api.Item { return api.Item{Kind: api.ItemMark, Mark: m} }

func items(l ...api.Item) []api.Item { return l }

func pane(key, from, to, acc int64) api.Pane {
	return api.Pane{Key: key, Span: api.Span{From: from, To: to}, Acc: acc}
}

// reduced: a reduce's pane.
func reduced(key, acc int64) api.Pane { return pane(key, math.MinInt64, 1<<41+1, acc) }

func same[T comparable](t *testing.T, what string, got []T, want ...T) {
	t.Helper()
	if !slices.Equal(got, want) {
		t.Errorf("%s: %v, wanted %v", what, got, want)
	}
}

// given: a job and logs that are taken: the nodes, and of the sources, in order, the partitions.
func given(t *testing.T, nodes []api.Node, sources ...[][]api.Item) (api.Job, api.Logs) {
	t.Helper()
	j, l := api.Job{Nodes: nodes}, make(api.Logs, len(nodes))
	for i, n := range nodes {
		if n.Kind == api.NodeSource {
			l[i], sources = sources[0], sources[1:]
		}
	}
	if e := job.Check(j); e != api.OK {
		t.Fatalf("%v: %v", j, e)
	}
	if e := job.Logs(j, l); e != api.OK {
		t.Fatalf("%v: %v", l, e)
	}
	return j, l
}

// allOf: what comes out of one node between a source, that has these items, and a sink.
func allOf(t *testing.T, n api.Node, l ...api.Item) []api.Record {
	t.Helper()
	j, logs := given(t, []api.Node{source(1), n, sink(1, 1)}, [][]api.Item{l})
	all := mean.All(j, logs)
	if len(all) != 3 || !slices.Equal(all[1], all[2]) {
		t.Fatalf("P14.2: of a sink what comes into it: %v", all)
	}
	return all[1]
}

func TestExample(t *testing.T) {
	j, l := given(t, []api.Node{source(1), windowed(tumbling(10), api.AggSum, 1, 0), sink(1, 1)},
		[][]api.Item{{rec(1, 5, 2), mark(9), rec(1, 7, 3), mark(end)}})
	for _, outs := range [][][]api.Record{mean.All(j, l), mean.Cut(j, l, nil)} {
		same(t, "P14.2: the source", outs[0], record(1, 5, 2))
		same(t, "P14.2: the window", outs[1], record(1, 9, 2))
		same(t, "P14.2: the sink", outs[2], record(1, 9, 2))
	}
}

func TestLate(t *testing.T) {
	for _, a := range []struct {
		what     string
		in, want []api.Item
	}{
		{"none", nil, nil},
		{"at the mark, and one above it", items(mark(5), rec(1, 5, 1), rec(1, 6, 1), rec(1, 4, 1)), items(mark(5), rec(1, 6, 1))},
		{"ahead of the mark", items(rec(1, 5, 1), rec(1, -9, 1), mark(5)), items(rec(1, 5, 1), rec(1, -9, 1), mark(5))},
		{"the greatest mark, not the last", items(mark(9), mark(2), rec(1, 5, 1), rec(1, 10, 1)), items(mark(9), mark(2), rec(1, 10, 1))},
		{"marks that rise", items(mark(2), rec(1, 5, 1), mark(9), rec(1, 5, 1)), items(mark(2), rec(1, 5, 1), mark(9))},
		{"below 0", items(mark(-5), rec(1, -5, 1), rec(1, -4, 1)), items(mark(-5), rec(1, -4, 1))},
		{"behind the end", items(mark(end), rec(1, 1<<40, 1), rec(1, end, 1), mark(3)), items(mark(end), mark(3))},
		{"twice the same", items(rec(1, 5, 1), rec(1, 5, 1)), items(rec(1, 5, 1), rec(1, 5, 1))},
		{"the least time ahead of any mark", items(rec(1, math.MinInt64, 1)), items(rec(1, math.MinInt64, 1))},
		{"the least time at the least mark", items(mark(math.MinInt64), rec(1, math.MinInt64, 1)), items(mark(math.MinInt64))},
	} {
		same(t, "P14.1: late: "+a.what, mean.Late(a.in), a.want...)
	}
	strange := items(api.Item{Kind: 7, Mark: 9}, api.Item{Kind: api.ItemRecord, Mark: 9}, rec(1, 5, 1), mark(6), api.Item{}, api.Item{Kind: -1})
	same(t, "P14.1: what is no record isn't late, what is no watermark makes none late", mean.Late(strange), strange...)
}

func TestSort(t *testing.T) {
	want := []api.Record{
		record(math.MinInt64, end, end), record(-1, 0, 0), record(0, -1, 5), record(0, 0, -1), record(0, 0, 0), record(0, 0, 0),
		record(0, 1, math.MinInt64), record(1, math.MinInt64, 0), record(end, math.MinInt64, 0),
	}
	l := slices.Clone(want)
	slices.Reverse(l)
	before := slices.Clone(l)
	same(t, "P14.1: Sort", mean.Sort(l), want...)
	same(t, "P14.1: Sort of what is sorted", mean.Sort(want), want...)
	same(t, "P14.1: Sort changes nothing", l, before...)
	same(t, "P14.1: Sort of none", mean.Sort(nil))
}

func TestWithin(t *testing.T) {
	a, b, other := record(1, 2, 3), record(1, 2, 4), record(1, 3, 3)
	recs := func(l ...api.Record) []api.Record { return l }
	for _, p := range []struct {
		a, b []api.Record
		want bool
	}{
		{nil, nil, true},
		{nil, recs(a), true},
		{recs(a), nil, false},
		{recs(a), recs(a), true},
		{recs(a), recs(b), false},
		{recs(a), recs(b, other, a), true},
		{recs(a, a), recs(a, b), false},
		{recs(a, a), recs(a, b, a), true},
		{recs(a, b), recs(a, a), false},
		{recs(b, a), recs(a, b), true},
		{recs(a, other, b, a), recs(b, a, other, a), true},
		{recs(a, other, b, a), recs(b, a, other, b), false},
		{recs(a, a, a), recs(a, a), false},
		{recs(record(2, 2, 3)), recs(a, record(3, 2, 3)), false},
	} {
		if got := mean.Within(p.a, p.b); got != p.want {
			t.Errorf("P14.1: Within(%v, %v): %v", p.a, p.b, got)
		}
	}
}

// TestSource: each partition has its own late records; a source's records are sorted, each as often as it is there.
func TestSource(t *testing.T) {
	j, l := given(t, []api.Node{source(2), sink(1, 0), sink(3, 0)}, [][]api.Item{
		{rec(2, 5, 1), mark(9), rec(1, 9, 1), rec(2, 10, 7), mark(end), rec(1, 99, 9)},
		{rec(2, 5, 1), rec(1, 4, 2), mark(3), rec(1, 4, 1), rec(-1, 4, 1)},
	})
	want := []api.Record{record(-1, 4, 1), record(1, 4, 1), record(1, 4, 2), record(2, 5, 1), record(2, 5, 1), record(2, 10, 7)}
	for node, got := range mean.All(j, l) {
		same(t, "P14.2: a source, and its sinks", got, want...)
		same(t, "P14.3: a source, and its sinks", mean.Cut(j, l, nil)[node], want...)
	}
}

func TestOneByOne(t *testing.T) {
	l := items(rec(3, 4, 2), rec(1, 2, 5), rec(-3, -4, 2), rec(3, 4, 2), rec(7, 1, math.MaxInt64))
	same(t, "P14.2: a map", allOf(t, by(api.NodeMap, x(api.ExprAdd, val, c(1)), 1, 0), l...),
		record(-3, -4, 3), record(1, 2, 6), record(3, 4, 3), record(3, 4, 3), record(7, 1, math.MinInt64))
	same(t, "P14.2: a map of the time", allOf(t, by(api.NodeMap, at, 1, 0), l...),
		record(-3, -4, -4), record(1, 2, 2), record(3, 4, 4), record(3, 4, 4), record(7, 1, 1))
	same(t, "P14.2: a filter", allOf(t, by(api.NodeFilter, x(api.ExprSub, val, c(2)), 1, 0), l...),
		record(1, 2, 5), record(7, 1, math.MaxInt64))
	same(t, "P14.2: a filter that lets nothing go on", allOf(t, by(api.NodeFilter, c(0), 1, 0), l...))
	same(t, "P14.2: a filter that lets all go on", allOf(t, by(api.NodeFilter, c(-1), 1, 0), l...),
		record(-3, -4, 2), record(1, 2, 5), record(3, 4, 2), record(3, 4, 2), record(7, 1, math.MaxInt64))
	same(t, "P14.2: a key", allOf(t, by(api.NodeKey, x(api.ExprMul, key, c(-1)), 1, 0), l...),
		record(-7, 1, math.MaxInt64), record(-3, 4, 2), record(-3, 4, 2), record(-1, 2, 5), record(3, -4, 2))
	same(t, "P14.2: a key that makes records one and the same", allOf(t, by(api.NodeKey, c(5), 1, 0), rec(1, 2, 3), rec(2, 2, 3)),
		record(5, 2, 3), record(5, 2, 3))
}

func TestUnion(t *testing.T) {
	j, l := given(t, []api.Node{source(1), source(1), union(1, 0, 1), union(2, 0, 1, 0, 0), union(1, 3, 3), union(1, 1), sink(1, 4)},
		[][]api.Item{{rec(2, 1, 1), rec(1, 1, 1)}}, [][]api.Item{{rec(1, 1, 1), rec(3, 1, 1)}})
	a, b, d := record(1, 1, 1), record(2, 1, 1), record(3, 1, 1)
	all := mean.All(j, l)
	same(t, "P14.2: a union", all[2], a, a, b, d)
	same(t, "P14.2: an input thrice", all[3], a, a, a, a, b, b, b, d)
	same(t, "P14.2: a union of unions", all[4], a, a, a, a, a, a, a, a, b, b, b, b, b, b, d, d)
	same(t, "P14.2: a union of one", all[5], a, d)
	same(t, "P14.2: its sink", all[6], all[4]...)
}

func TestReduce(t *testing.T) {
	l := items(rec(1, 5, 2), rec(2, 0, -7), rec(1, -5, 9), rec(1, 5, 2), rec(2, 8, 4))
	for aggr, want := range map[int][2]int64{
		api.AggSum: {13, -3}, api.AggCount: {3, 2}, api.AggMin: {2, -7}, api.AggMax: {9, 4}, api.AggXor: {2 ^ 9 ^ 2, -7 ^ 4},
	} {
		same(t, "P14.2: a reduce", allOf(t, reduce(aggr, 3, 0), l...), record(1, 1<<41, want[0]), record(2, 1<<41, want[1]))
	}
	same(t, "P14.2: a reduce of none", allOf(t, reduce(api.AggMin, 1, 0), mark(end)))
	same(t, "P14.2: a reduce's sum comes round", allOf(t, reduce(api.AggSum, 1, 0), rec(1, 1, math.MaxInt64), rec(1, 1, 1)), record(1, 1<<41, math.MinInt64))
}

func TestWindow(t *testing.T) {
	l := items(rec(1, 9, 2), rec(1, 0, 3), rec(1, 10, 4), rec(2, -1, 5), rec(1, 9, 2), rec(1, -10, 1))
	for aggr, want := range map[int]int64{api.AggSum: 7, api.AggCount: 3, api.AggMin: 2, api.AggMax: 3, api.AggXor: 3} {
		got := allOf(t, windowed(tumbling(10), aggr, 2, 0), l...)
		if len(got) != 4 || got[1] != record(1, 9, want) {
			t.Errorf("P14.2: a tumbling window: %v, wanted %d", got, want)
		}
	}
	same(t, "P14.2: a tumbling window", allOf(t, windowed(tumbling(10), api.AggSum, 2, 0), l...),
		record(1, -1, 1), record(1, 9, 7), record(1, 19, 4), record(2, -1, 5))
	same(t, "P14.2: a sliding window", allOf(t, windowed(sliding(10, 4), api.AggSum, 1, 0), rec(1, 9, 2), rec(1, 3, 1), rec(2, 9, 5)),
		record(1, 5, 1), record(1, 9, 3), record(1, 13, 2), record(1, 17, 2), record(2, 9, 5), record(2, 13, 5), record(2, 17, 5))
	same(t, "P14.2: times that slide leaves out", allOf(t, windowed(sliding(2, 5), api.AggCount, 1, 0), rec(1, 2, 1), rec(1, 4, 1), rec(1, 5, 1), rec(1, 6, 1), rec(1, -6, 1)),
		record(1, 6, 2))
	same(t, "P14.2: the greatest times", allOf(t, windowed(sliding(1<<36, 1<<36), api.AggCount, 1, 0), rec(1, 1<<40, 1), rec(1, -1<<40, 1)),
		record(1, -1<<40+1<<36-1, 1), record(1, 1<<40+1<<36-1, 1))
}

func TestSession(t *testing.T) {
	of := func(l ...api.Item) []api.Record { return allOf(t, windowed(session(5), api.AggSum, 2, 0), l...) }
	same(t, "P14.2: sessions that overlap", of(rec(1, 0, 1), rec(1, 4, 2)), record(1, 8, 3))
	same(t, "P14.2: sessions that meet", of(rec(1, 0, 1), rec(1, 5, 2)), record(1, 4, 1), record(1, 9, 2))
	same(t, "P14.2: through others, that come first", of(rec(1, 4, 1), rec(1, 0, 2), rec(1, 8, 4)), record(1, 12, 7))
	same(t, "P14.2: through others, that come last", of(rec(1, 8, 4), rec(1, 0, 2), rec(1, 4, 1)), record(1, 12, 7))
	same(t, "P14.2: sessions of unlike keys", of(rec(2, 0, 1), rec(1, 1, 2), rec(2, 3, 4)), record(1, 5, 2), record(2, 7, 5))
	same(t, "P14.2: a session of one time twice", of(rec(1, 3, 1), rec(1, 3, 1), rec(1, 3, 2)), record(1, 7, 4))
}

// TestOrder: nodes may stand ahead of their inputs; what reduces and windows tell goes on with its own time.
func TestOrder(t *testing.T) {
	j, l := given(t, []api.Node{
		sink(2, 1),
		windowed(tumbling(10), api.AggMax, 2, 2),
		union(1, 3, 5),
		reduce(api.AggCount, 2, 5),
		sink(1, 3),
		by(api.NodeKey, x(api.ExprAnd, key, c(1)), 3, 6),
		source(1),
	}, [][]api.Item{{rec(4, 3, 8), rec(5, 11, 9), rec(6, 4, 5), mark(end)}})
	all := mean.All(j, l)
	same(t, "P14.2: the key", all[5], record(0, 3, 8), record(0, 4, 5), record(1, 11, 9))
	same(t, "P14.2: the reduce", all[3], record(0, 1<<41, 2), record(1, 1<<41, 1))
	last := int64(1<<41/10*10 + 9)
	same(t, "P14.2: the window", all[1], record(0, 9, 8), record(0, last, 2), record(1, 19, 9), record(1, last, 1))
	same(t, "P14.2: the sink", all[0], all[1]...)
	same(t, "P14.2: the other sink", all[4], all[3]...)
	for i, got := range mean.Cut(j, l, nil) {
		same(t, "P14.4: with all items", got, all[i]...)
	}
}

// TestUnended: All tells all panes, though the logs aren't Whole; Cut doesn't.
func TestUnended(t *testing.T) {
	j, l := given(t, []api.Node{source(2), windowed(tumbling(10), api.AggSum, 1, 0), reduce(api.AggSum, 1, 0), sink(1, 1)},
		[][]api.Item{{rec(1, 5, 2), mark(12), rec(1, 17, 3), mark(1 << 40)}, {mark(9)}})
	all, cut := mean.All(j, l), mean.Cut(j, l, nil)
	same(t, "P14.2: the window", all[1], record(1, 9, 2), record(1, 19, 3))
	same(t, "P14.2: the reduce", all[2], record(1, 1<<41, 5))
	same(t, "P14.3: the window", cut[1], record(1, 9, 2))
	same(t, "P14.3: the reduce", cut[2])
	same(t, "P14.3: the sink", cut[3], record(1, 9, 2))
	left := mean.Left(j, l, nil)
	same(t, "P14.3: the window's panes", left[1], pane(1, 10, 20, 3))
	same(t, "P14.3: the reduce's panes", left[2], reduced(1, 5))
}
