package script_test

import (
	"math/rand"
	"slices"
	"testing"

	"leat/api"
	"leat/job"
)

func is[T comparable](t *testing.T, what string, got, want T) {
	t.Helper()
	if got != want {
		t.Errorf("%s: %#v, wanted %#v", what, got, want)
	}
}

func same[T comparable](t *testing.T, what string, got, want []T) {
	t.Helper()
	if !slices.Equal(got, want) {
		t.Errorf("%s: %v, wanted %v", what, got, want)
	}
}

func ev(kind, a, b int) api.Event { return api.Event{Kind: kind, A: a, B: b} }

func x(op int, l ...api.Expr) api.Expr { return api.Expr{Op: op, L: l} }

func c(n int64) api.Expr { return api.Expr{Op: api.ExprConst, N: n} }

// deep: so many operators, each within another one.
func deep(n int) api.Expr {
	e := x(api.ExprVal)
	for range n - 1 {
		e = x(api.ExprMin, e, x(api.ExprKey))
	}
	return e
}

func node(kind, par int, in ...int) api.Node { return api.Node{Kind: kind, Par: par, In: in} }

func by(kind int, e api.Expr, par, in int) api.Node {
	n := node(kind, par, in)
	n.E = e
	return n
}

func reduce(aggr, par, in int) api.Node {
	n := node(api.NodeReduce, par, in)
	n.Agg = aggr
	return n
}

func windowed(w api.Window, aggr, par, in int) api.Node {
	n := node(api.NodeWindow, par, in)
	n.Agg, n.Win = aggr, w
	return n
}

func jobOf(nodes ...api.Node) api.Job { return api.Job{Nodes: nodes} }

func item(key, time, val int64) api.Item {
	return api.Item{Kind: api.ItemRecord, Rec: api.Record{Key: key, Time: time, Val: val}}
}

func mark(m int64) api.Item { return api.Item{Kind: api.ItemMark, Mark: m} }

// good: jobs of all kinds of nodes, sinks anywhere among them.
func good() []api.Job {
	return []api.Job{
		jobOf(node(api.NodeSource, 1), node(api.NodeSink, 1, 0)),
		jobOf(node(api.NodeSink, 2, 2), node(api.NodeSource, 3), by(api.NodeMap, x(api.ExprMul, x(api.ExprVal), c(-3)), 2, 1), node(api.NodeSink, 1, 1)),
		jobOf(node(api.NodeSource, 2), windowed(api.Window{Kind: api.WinTumbling, Size: 4}, api.AggSum, 3, 0), node(api.NodeSink, 1, 1), reduce(api.AggCount, 2, 1), node(api.NodeSink, 3, 3)),
		jobOf(node(api.NodeSource, 1), node(api.NodeSource, 2), node(api.NodeUnion, 2, 1, 0, 1), by(api.NodeFilter, x(api.ExprLt, x(api.ExprVal), c(5)), 1, 2), windowed(api.Window{Kind: api.WinSliding, Size: 9, Slide: 4}, api.AggMax, 2, 3), node(api.NodeSink, 2, 4)),
		jobOf(node(api.NodeSource, 4), by(api.NodeKey, x(api.ExprAnd, x(api.ExprVal), c(3)), 3, 0), windowed(api.Window{Kind: api.WinSession, Size: 3}, api.AggXor, 4, 1), node(api.NodeSink, 4, 2)),
	}
}

// someLogs: up to so many records and marks a partition.
func someLogs(r *rand.Rand, j api.Job, most int, whole bool) api.Logs {
	l := make(api.Logs, len(j.Nodes))
	for i, n := range j.Nodes {
		if n.Kind == api.NodeSource {
			for range n.Par {
				l[i] = append(l[i], somePartition(r, most, whole))
			}
		}
	}
	return l
}

func somePartition(r *rand.Rand, most int, whole bool) []api.Item {
	var p []api.Item
	for at := range int64(r.Intn(most + 1)) {
		p = append(p, item(r.Int63n(5)-1, 2*at+r.Int63n(9)-4, r.Int63n(12)-3))
		if r.Intn(4) == 0 {
			p = append(p, mark(2*at-3))
		}
	}
	if whole {
		p = append(p, mark(api.MaxMark))
	}
	return p
}

func someSettings(r *rand.Rand) api.Settings {
	return api.Settings{Credits: r.Intn(5), Interval: r.Intn(5), Timeout: r.Intn(12), Over: r.Intn(3), Keep: r.Intn(3), Room: []int{0, 0, 4000, 50}[r.Intn(4)]}
}

// someScript: things go on, mostly, and now and then something is lost or doubled, crashes, is full.
func someScript(r *rand.Rand, events int) []byte {
	var b []byte
	for range events {
		e := ev([]int{api.EvStep, api.EvSend, api.EvDeliver, api.EvTick, api.EvControl}[min(r.Intn(16), 4)], r.Intn(4), 0)
		if r.Intn(300) == 0 {
			e = ev(r.Intn(api.EvCut+1), r.Intn(256), r.Intn(256))
		}
		b = append(b, byte(e.Kind+10*r.Intn(25)), byte(e.A), byte(e.B))
	}
	return append(b, make([]byte, r.Intn(3))...)
}

// oddExpr: mostly one that expr.Check refuses.
func oddExpr(r *rand.Rand) api.Expr {
	switch r.Intn(5) {
	case 0:
		return x(r.Intn(18)-1, c(r.Int63()-r.Int63()), x(api.ExprTime))
	case 1:
		return deep(1 + r.Intn(12))
	case 2:
		return x(api.ExprIf, x(api.ExprVal), c(1), c(2))
	case 3:
		return c(r.Int63n(9) - 4)
	}
	return api.Expr{}
}

// oddNode: numbers at, and beside, those that mean something.
func oddNode(r *rand.Rand) api.Node {
	n := api.Node{Kind: r.Intn(11) - 1, Par: r.Intn(7) - 1, E: oddExpr(r), Agg: r.Intn(8) - 1}
	for range r.Intn(6) {
		n.In = append(n.In, r.Intn(16)-2)
	}
	n.Win = api.Window{Kind: r.Intn(6) - 1, Size: r.Int63n(20) - 5, Slide: r.Int63n(20) - 5}
	return n
}

// oddJob: one that job.Check refuses.
func oddJob(r *rand.Rand) api.Job {
	for {
		var j api.Job
		for range r.Intn(api.MaxNodes + 3) {
			j.Nodes = append(j.Nodes, oddNode(r))
		}
		if job.Check(j) != api.OK {
			return j
		}
	}
}
