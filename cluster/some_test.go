package cluster_test

import (
	"math/rand"
	"slices"
	"testing"

	"leat/api"
	"leat/cluster"
	"leat/job"
	"leat/mean"
)

func node(kind, par int, in ...int) api.Node { return api.Node{Kind: kind, Par: par, In: in} }

func source(par int) api.Node { return node(api.NodeSource, par) }

func sink(par, in int) api.Node { return node(api.NodeSink, par, in) }

func reduce(aggr, par, in int) api.Node {
	n := node(api.NodeReduce, par, in)
	n.Agg = aggr
	return n
}

func windowed(w api.Window, aggr, par, in int) api.Node {
	n := reduce(aggr, par, in)
	n.Kind, n.Win = api.NodeWindow, w
	return n
}

func by(kind int, e api.Expr, par, in int) api.Node {
	n := node(kind, par, in)
	n.E = e
	return n
}

func jobOf(nodes ...api.Node) api.Job { return api.Job{Nodes: nodes} }

func rec(key, time, val int64) api.Record { return api.Record{Key: key, Time: time, Val: val} }

func item(key, time, val int64) api.Item {
	return api.Item{Kind: api.ItemRecord, Rec: rec(key, time, val)}
}

func mark(m int64) api.Item { return api.Item{Kind: api.ItemMark, Mark: m} }

// line: a source and a sink, three records and the end.
func line() (api.Job, api.Logs) {
	return jobOf(source(1), sink(1, 0)), api.Logs{{{item(1, 1, 1), item(2, 2, 2), item(1, 3, 3), mark(api.MaxMark)}}, nil}
}

func do(c *cluster.Cluster, l ...api.Event) {
	for _, e := range l {
		c.Do(e)
	}
}

func again(n int, l ...api.Event) []api.Event { return slices.Repeat(l, n) }

func ev(kind, a, b int) api.Event { return api.Event{Kind: kind, A: a, B: b} }

func rounds(c *cluster.Cluster, n int) {
	for range n {
		c.Round()
	}
}

// ends: Rounds till it is Finished; how many.
func ends(t *testing.T, what string, c *cluster.Cluster, j api.Job, l api.Logs, s api.Settings) int {
	t.Helper()
	for n := range cluster.Bound(j, l, s) + 1 {
		if c.Status() == api.Finished {
			return n
		}
		c.Round()
	}
	t.Fatalf("P30.6: %s: not Finished behind %d Rounds", what, cluster.Bound(j, l, s))
	return 0
}

func is[T comparable](t *testing.T, what string, got, want T) {
	t.Helper()
	if got != want {
		t.Errorf("%s: %v, wanted %v", what, got, want)
	}
}

func same[T comparable](t *testing.T, what string, got, want []T) {
	t.Helper()
	if !slices.Equal(got, want) {
		t.Errorf("%s: %v, wanted %v", what, got, want)
	}
}

func bags(a, b []api.Record) bool { return slices.Equal(mean.Sort(a), mean.Sort(b)) }

// looked: all that a cluster tells.
type looked struct {
	status                          int
	why                             api.Errno
	sinks                           [][]api.Record
	durable                         []uint64
	offsets                         [][][]int
	over                            []bool
	upto                            [][][]api.Record
	panes                           [][][]api.Pane
	epoch                           uint64
	tasks, channels, controls, most int
}

func look(c *cluster.Cluster, nodes int) looked {
	l := looked{status: c.Status(), why: c.Why(), durable: c.Durable(), epoch: c.Epoch(), tasks: c.Tasks(), channels: c.Channels(), controls: c.Controls(), most: c.Most()}
	for i := range nodes {
		l.sinks = append(l.sinks, c.Sink(i))
	}
	for _, n := range l.durable {
		l.offsets, l.over = append(l.offsets, c.Offsets(n)), append(l.over, c.Over(n))
		var upto [][]api.Record
		var panes [][]api.Pane
		for i := range nodes {
			upto, panes = append(upto, c.Upto(i, n)), append(panes, c.Panes(i, n))
		}
		l.upto, l.panes = append(l.upto, upto), append(l.panes, panes)
	}
	return l
}

func x(op int, l ...api.Expr) api.Expr { return api.Expr{Op: op, L: l} }

func c(n int64) api.Expr { return api.Expr{Op: api.ExprConst, N: n} }

func someExpr(r *rand.Rand, deep int) api.Expr {
	if deep == 0 || r.Intn(3) == 0 {
		return []api.Expr{x(api.ExprKey), x(api.ExprTime), x(api.ExprVal), c(r.Int63n(7) - 2)}[r.Intn(4)]
	}
	return x(api.ExprAdd+r.Intn(api.ExprIf-api.ExprAdd), someExpr(r, deep-1), someExpr(r, deep-1))
}

func someWindow(r *rand.Rand) api.Window {
	size := 1 + r.Int63n(12)
	switch r.Intn(4) {
	case 0:
		return api.Window{Kind: api.WinTumbling, Size: size}
	case 1:
		return api.Window{Kind: api.WinSliding, Size: size, Slide: 1 + r.Int63n(15)}
	}
	return api.Window{Kind: api.WinSession, Size: size}
}

func someNode(r *rand.Rand, nodes int) api.Node {
	par, in, aggr := 1+r.Intn(api.MaxPar), r.Intn(nodes), api.AggSum+r.Intn(5)
	switch kind := api.NodeMap + r.Intn(6); kind {
	case api.NodeMap, api.NodeFilter:
		return by(kind, someExpr(r, 2), par, in)
	case api.NodeKey: // keys that fall together
		return by(kind, x(api.ExprAnd, someExpr(r, 1), c(7)), par, in)
	case api.NodeUnion:
		n := node(kind, par, in)
		for range r.Intn(api.MaxIn) {
			n.In = append(n.In, r.Intn(nodes))
		}
		return n
	case api.NodeReduce:
		return reduce(aggr, par, in)
	default:
		return windowed(someWindow(r), aggr, par, in)
	}
}

// shuffled: the same nodes under other numbers, so that inputs may have higher ones.
func shuffled(r *rand.Rand, nodes []api.Node) []api.Node {
	to, out := r.Perm(len(nodes)), make([]api.Node, len(nodes))
	for i, n := range nodes {
		for k, in := range n.In {
			n.In[k] = to[in]
		}
		out[to[i]] = n
	}
	return out
}

// someJob: of up to so many nodes between sources and sinks.
func someJob(r *rand.Rand, most int) api.Job {
	for {
		var nodes []api.Node
		for range 1 + r.Intn(2) {
			nodes = append(nodes, source(1+r.Intn(api.MaxPar)))
		}
		for range r.Intn(most + 1) {
			nodes = append(nodes, someNode(r, len(nodes)))
		}
		inner := len(nodes)
		for range 1 + r.Intn(2) {
			nodes = append(nodes, sink(1+r.Intn(api.MaxPar), inner-1-r.Intn((inner+1)/2)))
		}
		if j := jobOf(shuffled(r, nodes)...); job.Check(j) == api.OK {
			return j
		}
	}
}

// someLogs: marks that mostly rise; whole ones end with MaxMark, or have it ahead of that.
func someLogs(r *rand.Rand, j api.Job, most int, whole bool) api.Logs {
	l := make(api.Logs, len(j.Nodes))
	for i, n := range j.Nodes {
		if n.Kind != api.NodeSource {
			continue
		}
		for range n.Par {
			l[i] = append(l[i], somePartition(r, most, whole))
		}
	}
	return l
}

func somePartition(r *rand.Rand, most int, whole bool) []api.Item {
	var p []api.Item
	time := r.Int63n(20) - 10
	for range r.Intn(most + 1) {
		switch time += r.Int63n(6); r.Intn(5) {
		case 0:
			p = append(p, mark(time))
		case 1:
			p = append(p, item(r.Int63n(5)-1, r.Int63n(50)-10, r.Int63n(9)-2))
		default:
			p = append(p, item(r.Int63n(8)-1, time+r.Int63n(12)-2, r.Int63n(9)-2))
		}
	}
	if whole {
		p = append(p, mark(api.MaxMark))
		if r.Intn(4) == 0 {
			p = append(p, item(1, 50, 1), mark(3))
		}
	}
	return p
}
