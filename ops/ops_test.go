package ops_test

import (
	"math"
	"slices"
	"testing"

	"leat/api"
	"leat/expr"
	"leat/job"
	"leat/ops"
)

var (
	key = api.Expr{Op: api.ExprKey}
	at  = api.Expr{Op: api.ExprTime}
	val = api.Expr{Op: api.ExprVal}
)

func c(n int64) api.Expr { return api.Expr{Op: api.ExprConst, N: n} }

func x(op int, l ...api.Expr) api.Expr { return api.Expr{Op: op, L: l} }

func tumbling(size int64) api.Window { return api.Window{Kind: api.WinTumbling, Size: size} }

func sliding(size, slide int64) api.Window {
	return api.Window{Kind: api.WinSliding, Size: size, Slide: slide}
}

func session(size int64) api.Window { return api.Window{Kind: api.WinSession, Size: size} }

func node(kind int) api.Node {
	if kind == api.NodeSource {
		return api.Node{Kind: kind, Par: 1}
	}
	return api.Node{Kind: kind, Par: 1, In: []int{0}}
}

func by(kind int, e api.Expr) api.Node {
	n := node(kind)
	n.E = e
	return n
}

func reduce(aggr int) api.Node {
	n := node(api.NodeReduce)
	n.Agg = aggr
	return n
}

func windowed(w api.Window, aggr int) api.Node {
	n := node(api.NodeWindow)
	n.Win, n.Agg = w, aggr
	return n
}

func record(key, time, val int64) api.Record { return api.Record{Key: key, Time: time, Val: val} }

func pane(key, from, to, acc int64) api.Pane {
	return api.Pane{Key: key, Span: api.Span{From: from, To: to}, Acc: acc}
}

// reduced: a reduce's pane.
func reduced(key, acc int64) api.Pane { return pane(key, math.MinInt64, 1<<41+1, acc) }

func same[T comparable](t *testing.T, what string, got []T, want ...T) {
	t.Helper()
	if !slices.Equal(got, want) {
		t.Errorf("%s: %v, wanted %v", what, got, want)
	}
}

// goesIn: records that go in, of which nothing comes out.
func goesIn(t *testing.T, o *ops.Op, recs ...api.Record) {
	t.Helper()
	for _, r := range recs {
		same(t, "P13.1: a record that goes in", o.Record(r))
	}
}

func isLate(t *testing.T, what string, o *ops.Op, want int) {
	t.Helper()
	if got := o.Late(); got != want {
		t.Errorf("P13.1: %s: %d late, wanted %d", what, got, want)
	}
}

// taken: that a node is one of a job that is taken, as the promises speak of no others.
func taken(t *testing.T, n api.Node) api.Node {
	t.Helper()
	nodes := []api.Node{{Kind: api.NodeSource, Par: 1}, n}
	if n.Kind != api.NodeSink {
		nodes = append(nodes, api.Node{Kind: api.NodeSink, Par: 1, In: []int{1}})
	}
	if e := job.Check(api.Job{Nodes: nodes}); e != api.OK {
		t.Fatalf("%v: %v", n, e)
	}
	return n
}

func TestExamples(t *testing.T) {
	f := ops.New(taken(t, by(api.NodeFilter, x(api.ExprLt, val, c(3)))))
	same(t, "P13.1: it stays", f.Record(record(1, 1, 2)), record(1, 1, 2))
	same(t, "P13.1: it goes", f.Record(record(1, 1, 3)))
	w := ops.New(taken(t, windowed(tumbling(10), api.AggSum)))
	same(t, "P13.2: Mark(9) of none", w.Mark(9))
	goesIn(t, w, record(1, 5, 1))
	isLate(t, "the example", w, 1)
	same(t, "P13.1: the example's panes", w.Panes())
}

func TestMap(t *testing.T) {
	o := ops.New(taken(t, by(api.NodeMap, x(api.ExprAdd, x(api.ExprMul, key, c(10)), x(api.ExprSub, at, val)))))
	same(t, "P13.1: a map", o.Record(record(3, 4, 2)), record(3, 4, 32))
	same(t, "P13.1: a map, below 0", o.Record(record(-3, -4, 2)), record(-3, -4, -36))
	zero := ops.New(by(api.NodeMap, c(0)))
	same(t, "P13.1: a map to 0", zero.Record(record(3, 4, 2)), record(3, 4, 0))
	round := ops.New(by(api.NodeMap, x(api.ExprAdd, val, c(1))))
	same(t, "P13.1: a map that comes round", round.Record(record(3, 4, math.MaxInt64)), record(3, 4, math.MinInt64))
}

func TestFilter(t *testing.T) {
	o := ops.New(taken(t, by(api.NodeFilter, x(api.ExprSub, val, key))))
	for _, r := range []api.Record{record(1, 9, 2), record(2, 9, 1), record(0, 9, 1<<32), record(0, 0, math.MinInt64), record(-1, -9, 0)} {
		same(t, "P13.1: a filter lets it go on", o.Record(r), r)
	}
	for _, r := range []api.Record{record(0, 9, 0), record(5, 9, 5), record(-1, -9, -1)} {
		same(t, "P13.1: a filter holds it back", o.Record(r))
	}
}

func TestKey(t *testing.T) {
	o := ops.New(taken(t, by(api.NodeKey, x(api.ExprAnd, val, x(api.ExprAdd, key, at)))))
	same(t, "P13.1: a key", o.Record(record(3, 4, 6)), record(6, 4, 6))
	same(t, "P13.1: a key", o.Record(record(1, 2, 5)), record(1, 2, 5))
	same(t, "P13.1: a key", o.Record(record(1, 2, 4)), record(0, 2, 4))
}

func TestPassing(t *testing.T) {
	for _, kind := range []int{api.NodeSource, api.NodeUnion, api.NodeSink} {
		o := ops.New(node(kind))
		for _, r := range []api.Record{{}, record(1, 2, 3), record(math.MinInt64, -1<<50, math.MaxInt64)} {
			same(t, "P13.1: it goes through", o.Record(r), r)
			same(t, "P13.1: it goes through again", o.Record(r), r)
		}
	}
}

// TestStateless: what has no state does nothing with watermarks and panes, and holds no record for late.
func TestStateless(t *testing.T) {
	r := record(1, 2, 3)
	for _, n := range []api.Node{node(api.NodeSource), by(api.NodeMap, val), by(api.NodeFilter, val), by(api.NodeKey, key), node(api.NodeUnion), node(api.NodeSink)} {
		o := ops.New(n)
		for _, m := range []int64{math.MinInt64, 0, 2, 100, math.MaxInt64} {
			same(t, "P13.2: Mark without a state", o.Mark(m))
			o.Load([]api.Pane{pane(1, 0, 10, 5)})
			same(t, "P13.2: Panes without a state", o.Panes())
			same(t, "P13.1: behind any mark", o.Record(r), r)
		}
		same(t, "P13.2: Mark without a state", o.Mark(math.MaxInt64))
		isLate(t, "without a state", o, 0)
	}
}

func TestReduce(t *testing.T) {
	o := ops.New(taken(t, reduce(api.AggSum)))
	goesIn(t, o, record(2, 5, 1), record(1, 500, 2), record(2, -5, 3))
	same(t, "P13.1: a reduce's panes", o.Panes(), reduced(1, 2), reduced(2, 4))
	for _, m := range []int64{-1, 0, 1 << 40, 1 << 41, 1<<41 + 1, math.MaxInt64 - 1} {
		same(t, "P13.2: a reduce ahead of MaxMark", o.Mark(m))
	}
	goesIn(t, o, record(2, -1<<40, 10))
	isLate(t, "a reduce", o, 0)
	same(t, "P13.2: a reduce's end", o.Mark(api.MaxMark), record(1, 1<<41, 2), record(2, 1<<41, 14))
	same(t, "P13.2: a reduce's panes are gone", o.Panes())
	goesIn(t, o, record(3, 7, 7))
	same(t, "P13.1: a reduce takes all, behind MaxMark too", o.Panes(), reduced(3, 7))
	isLate(t, "a reduce behind MaxMark", o, 0)
	same(t, "P13.2: MaxMark again isn't above", o.Mark(api.MaxMark))
	same(t, "P13.2: what it didn't tell is there", o.Panes(), reduced(3, 7))
}

// TestAggs: of each aggregate the values -2, 7, 7.
func TestAggs(t *testing.T) {
	for i, want := range []int64{12, 3, -2, 7, -2} {
		recs := []api.Record{record(1, 0, -2), record(1, 1, 7), record(1, 0, 7)}
		r := ops.New(reduce(api.AggSum + i))
		goesIn(t, r, recs...)
		same(t, "P13.2: a reduce's aggregate", r.Mark(api.MaxMark), record(1, 1<<41, want))
		for _, w := range []api.Window{tumbling(100), sliding(100, 100)} {
			o := ops.New(windowed(w, api.AggSum+i))
			goesIn(t, o, recs...)
			same(t, "P13.2: a window's aggregate", o.Mark(99), record(1, 99, want))
		}
		o := ops.New(windowed(session(100), api.AggSum+i))
		goesIn(t, o, recs...)
		same(t, "P13.2: a session's aggregate", o.Mark(100), record(1, 100, want))
		part := ops.New(windowed(sliding(10, 5), api.AggSum+i))
		part.Mark(9)
		goesIn(t, part, record(1, 5, -2), record(1, 7, 7), record(1, 9, 7))
		same(t, "P13.1: the aggregate of what is partly late", part.Panes(), pane(1, 5, 15, want))
	}
}

func TestMark(t *testing.T) {
	o := ops.New(taken(t, windowed(tumbling(10), api.AggSum)))
	goesIn(t, o, record(2, 5, 1), record(1, 15, 2), record(1, 5, 3), record(-3, 25, 4))
	same(t, "P13.2: Mark(8)", o.Mark(8))
	same(t, "P13.2: Mark(9)", o.Mark(9), record(1, 9, 3), record(2, 9, 1))
	same(t, "P13.2: left", o.Panes(), pane(-3, 20, 30, 4), pane(1, 10, 20, 2))
	for _, m := range []int64{9, 8, 0, -1, math.MinInt64} {
		same(t, "P13.2: a mark that isn't above", o.Mark(m))
	}
	goesIn(t, o, record(1, 9, 1))
	isLate(t, "a mark below doesn't bring the greatest one down", o, 1)
	same(t, "P13.2: by key, not by time", o.Mark(api.MaxMark), record(-3, 29, 4), record(1, 19, 2))
	goesIn(t, o, record(1, 1<<40, 1))
	isLate(t, "behind MaxMark all are", o, 2)
	same(t, "P13.2: MaxMark again", o.Mark(api.MaxMark))
	same(t, "P13.2: MinMark at first", ops.New(windowed(tumbling(10), api.AggSum)).Mark(api.MinMark))
}

// TestLateEdge: of each window a record whose last span's To - 1 is the mark, and is one above it.
func TestLateEdge(t *testing.T) {
	for _, y := range []struct {
		w          api.Window
		time, last int64
	}{
		{tumbling(10), 0, 9}, {tumbling(10), 9, 9}, {tumbling(10), -1, -1}, {tumbling(10), -10, -1}, {tumbling(1), 5, 5}, {tumbling(api.MaxSpan), 5, api.MaxSpan - 1},
		{sliding(10, 5), 2, 9}, {sliding(10, 5), 7, 14}, {sliding(10, 5), -2, 4}, {sliding(10, 4), 9, 17}, {sliding(10, 3), 9, 18}, {sliding(3, 10), 2, 2}, {sliding(10, 10), 3, 9}, {sliding(64, 1), 0, 63},
		{session(5), 3, 7}, {session(1), 3, 3}, {session(5), -9, -5}, {session(api.MaxSpan), 0, api.MaxSpan - 1},
		{session(5), 1 << 50, 1<<50 + 4}, {tumbling(2), -1 << 50, -1<<50 + 1},
	} {
		n := taken(t, windowed(y.w, api.AggCount))
		in, out := ops.New(n), ops.New(n)
		in.Mark(y.last - 1)
		out.Mark(y.last)
		goesIn(t, in, record(1, y.time, 1))
		goesIn(t, out, record(1, y.time, 1))
		isLate(t, "one above the mark", in, 0)
		isLate(t, "the mark", out, 1)
		same(t, "P13.1: what is late is dropped", out.Panes())
		same(t, "P13.1: the last span alone is told", in.Mark(y.last), record(1, y.last, 1))
		same(t, "P13.1: the last span alone was there", in.Panes())
	}
}

// TestPartlyLate: a record goes into those spans alone that aren't late.
func TestPartlyLate(t *testing.T) {
	for _, y := range []struct {
		mark int64
		want []api.Pane
		late int
	}{
		{8, []api.Pane{pane(1, 0, 10, 5), pane(1, 4, 14, 5), pane(1, 8, 18, 5)}, 0},
		{9, []api.Pane{pane(1, 4, 14, 5), pane(1, 8, 18, 5)}, 0},
		{12, []api.Pane{pane(1, 4, 14, 5), pane(1, 8, 18, 5)}, 0},
		{13, []api.Pane{pane(1, 8, 18, 5)}, 0},
		{16, []api.Pane{pane(1, 8, 18, 5)}, 0},
		{17, nil, 1},
		{api.MaxMark, nil, 1},
	} {
		o := ops.New(taken(t, windowed(sliding(10, 4), api.AggSum)))
		o.Mark(y.mark)
		goesIn(t, o, record(1, 9, 5))
		same(t, "P13.1: its spans", o.Panes(), y.want...)
		isLate(t, "some of its spans", o, y.late)
	}
	o := ops.New(windowed(sliding(10, 5), api.AggSum))
	goesIn(t, o, record(1, 7, 1), record(2, 7, 2))
	same(t, "P13.2: the first spans", o.Mark(9), record(1, 9, 1), record(2, 9, 2))
	goesIn(t, o, record(1, 8, 4), record(3, 9, 8), record(1, 12, 16), record(1, 6, 32))
	same(t, "P13.1: what is partly late comes to what is there", o.Panes(), pane(1, 5, 15, 53), pane(1, 10, 20, 16), pane(2, 5, 15, 2), pane(3, 5, 15, 8))
	goesIn(t, o, record(2, 5, 64))
	same(t, "P13.2: and is told with it", o.Mark(14), record(1, 14, 53), record(2, 14, 66), record(3, 14, 8))
	same(t, "P13.2: what is left", o.Panes(), pane(1, 10, 20, 16))
	isLate(t, "partly late isn't late", o, 0)
}

// TestNoSpan: what a slide leaves out is in no window, and not late.
func TestNoSpan(t *testing.T) {
	o := ops.New(taken(t, windowed(sliding(3, 10), api.AggSum)))
	for _, m := range []int64{api.MinMark, 0, 12, api.MaxMark} {
		o.Mark(m)
		goesIn(t, o, record(1, 5, 1), record(1, 3, 1), record(1, 9, 1), record(1, -1, 1))
		isLate(t, "without a span", o, 0)
		same(t, "P13.1: without a span", o.Panes())
	}
	goesIn(t, o, record(1, 12, 1))
	isLate(t, "with a span", o, 1)
}

// TestSession: a session's record is held against the mark by its own span, not by that which it would come to.
func TestSession(t *testing.T) {
	o := ops.New(taken(t, windowed(session(5), api.AggCount)))
	goesIn(t, o, record(1, 8, 1), record(1, 12, 1), record(2, 0, 1))
	same(t, "P13.2: one is due", o.Mark(10), record(2, 4, 1))
	goesIn(t, o, record(1, 6, 1))
	isLate(t, "its own span is", o, 1)
	same(t, "P13.1: a session isn't reached by what is late", o.Panes(), pane(1, 8, 17, 2))
	goesIn(t, o, record(1, 7, 1))
	same(t, "P13.1: a session is reached by what isn't", o.Panes(), pane(1, 7, 17, 3))
	goesIn(t, o, record(2, 7, 1))
	same(t, "P13.1: a session of its own", o.Panes(), pane(1, 7, 17, 3), pane(2, 7, 12, 1))
	isLate(t, "of a session", o, 1)
	same(t, "P13.2: sessions", o.Mark(16), record(1, 16, 3), record(2, 11, 1))
}

func TestLoad(t *testing.T) {
	for _, y := range []struct {
		n           api.Node
		panes, want []api.Pane
		end         []api.Record
	}{
		{windowed(tumbling(10), api.AggSum), []api.Pane{pane(2, 0, 10, 3), pane(1, 10, 20, 5), pane(2, 0, 10, 4)}, []api.Pane{pane(1, 10, 20, 5), pane(2, 0, 10, 7)}, []api.Record{record(1, 19, 5), record(2, 9, 7)}},
		{windowed(sliding(10, 5), api.AggMin), []api.Pane{pane(1, 5, 15, 3), pane(1, 0, 10, 5), pane(1, 5, 15, 4)}, []api.Pane{pane(1, 0, 10, 5), pane(1, 5, 15, 3)}, []api.Record{record(1, 9, 5), record(1, 14, 3)}},
		{windowed(session(5), api.AggSum), []api.Pane{pane(1, 4, 9, 2), pane(1, 0, 5, 1)}, []api.Pane{pane(1, 0, 9, 3)}, []api.Record{record(1, 8, 3)}},
		{reduce(api.AggMax), []api.Pane{reduced(2, 3), reduced(1, 5), reduced(2, 4)}, []api.Pane{reduced(1, 5), reduced(2, 4)}, []api.Record{record(1, 1<<41, 5), record(2, 1<<41, 4)}},
	} {
		o := ops.New(taken(t, y.n))
		goesIn(t, o, record(7, 3, 1))
		o.Load(y.panes)
		same(t, "P13.2: loaded", o.Panes(), y.want...)
		again := ops.New(y.n)
		again.Load(o.Panes())
		same(t, "P13.2: loaded again", again.Panes(), y.want...)
		same(t, "P13.2: gone on with", again.Mark(api.MaxMark), y.end...)
		o.Load(nil)
		same(t, "P13.2: nothing loaded", o.Panes())
		same(t, "P13.2: nothing told", o.Mark(api.MaxMark))
	}
}

// TestLoadEnded: Load leaves the greatest mark and the count of late records; panes that had ended ahead of it wait for the next mark, untouched by records that are partly late.
func TestLoadEnded(t *testing.T) {
	o := ops.New(windowed(sliding(10, 5), api.AggSum))
	o.Mark(9)
	goesIn(t, o, record(1, 2, 1), record(2, 7, 1))
	ended := pane(1, 0, 10, 5)
	o.Load([]api.Pane{ended})
	same(t, "P13.2: what was partly late is gone too", o.Panes(), ended)
	isLate(t, "behind Load", o, 1)
	goesIn(t, o, record(1, 7, 2), record(1, 3, 4))
	same(t, "P13.1: only what is open", o.Panes(), ended, pane(1, 5, 15, 2))
	isLate(t, "the mark outlasts Load", o, 2)
	same(t, "P13.2: Mark(9) again", o.Mark(9))
	same(t, "P13.2: Mark(10)", o.Mark(10), record(1, 9, 5))
	same(t, "P13.2: left", o.Panes(), pane(1, 5, 15, 2))
}

// TestLoadEndedSession: a session that had ended comes to one with what isn't late, as the state has it.
func TestLoadEndedSession(t *testing.T) {
	o := ops.New(windowed(session(5), api.AggSum))
	o.Mark(10)
	o.Load([]api.Pane{pane(1, 0, 9, 1)})
	goesIn(t, o, record(1, 6, 2), record(1, 8, 4))
	same(t, "P13.1: sessions", o.Panes(), pane(1, 0, 13, 5))
	isLate(t, "by its own span", o, 1)
}

// TestOnTime: a record whose Time is above the greatest mark is never late, and goes into all its spans.
func TestOnTime(t *testing.T) {
	for _, w := range []api.Window{tumbling(1), tumbling(10), sliding(10, 4), sliding(64, 1), sliding(3, 7), sliding(1, 1), session(1), session(9), tumbling(api.MaxSpan), session(api.MaxSpan)} {
		for m := int64(-30); m <= 30; m++ {
			for time := m + 1; time <= m+25; time++ {
				o, free := ops.New(windowed(w, api.AggSum)), ops.New(windowed(w, api.AggSum))
				o.Mark(m)
				goesIn(t, o, record(1, time, 3))
				goesIn(t, free, record(1, time, 3))
				same(t, "P13.3: all its spans", o.Panes(), free.Panes()...)
				if o.Late() != 0 {
					t.Fatalf("P13.3: %v: the time %d is late behind the mark %d", w, time, m)
				}
			}
		}
	}
}

func TestReadme(t *testing.T) {
	o := ops.New(api.Node{Kind: api.NodeWindow, In: []int{0}, Par: 1, Agg: api.AggSum,
		Win: api.Window{Kind: api.WinSliding, Size: 10, Slide: 5}})
	o.Record(api.Record{Key: 1, Time: 5, Val: 2})
	same(t, "P13.2: Mark(9)", o.Mark(9), record(1, 9, 2))
	o.Record(api.Record{Key: 1, Time: 7, Val: 4})
	o.Record(api.Record{Key: 1, Time: 2, Val: 8})
	isLate(t, "the second one", o, 1)
	same(t, "P13.2: Panes", o.Panes(), pane(1, 5, 15, 6))
}

// TestEval: of expressions of every operator: what expr tells, told by each kind.
func TestEval(t *testing.T) {
	r := record(3, -7, 4)
	for op := api.ExprConst; op <= api.ExprIf; op++ {
		e := x(op)
		switch {
		case op == api.ExprConst:
			e = c(5)
		case op == api.ExprIf:
			e = x(op, val, x(api.ExprAdd, key, c(9)), at)
		case op >= api.ExprAdd:
			e = x(op, x(api.ExprMul, at, key), x(api.ExprMin, val, c(-1)))
		}
		n := expr.Eval(e, r)
		same(t, "P13.1: a map", ops.New(taken(t, by(api.NodeMap, e))).Record(r), record(3, -7, n))
		same(t, "P13.1: a key", ops.New(taken(t, by(api.NodeKey, e))).Record(r), record(n, -7, 4))
		if got := ops.New(taken(t, by(api.NodeFilter, e))).Record(r); len(got) > 1 || (len(got) == 1) != (n != 0) {
			t.Errorf("P13.1: a filter by %s: %v", expr.Text(e), got)
		}
	}
}
