package task_test

import (
	"math/rand"

	"leat/api"
	"leat/job"
)

func someExpr(r *rand.Rand, deep int) api.Expr {
	if deep == 0 || r.Intn(3) == 0 {
		return []api.Expr{key, at, val, c(r.Int63n(7) - 2)}[r.Intn(4)]
	}
	return x(api.ExprAdd+r.Intn(api.ExprIf-api.ExprAdd), someExpr(r, deep-1), someExpr(r, deep-1))
}

func someWindow(r *rand.Rand) api.Window {
	size := 1 + r.Int63n(12)
	switch r.Intn(3) {
	case 0:
		return tumbling(size)
	case 1:
		return api.Window{Kind: api.WinSliding, Size: size, Slide: 1 + r.Int63n(15)}
	}
	return api.Window{Kind: api.WinSession, Size: size}
}

func someNode(r *rand.Rand, nodes int) api.Node {
	par, in, aggr := 1+r.Intn(4), r.Intn(nodes), api.AggSum+r.Intn(5)
	switch kind := api.NodeMap + r.Intn(6); kind {
	case api.NodeMap, api.NodeFilter:
		return by(kind, someExpr(r, 2), par, in)
	case api.NodeKey:
		return by(kind, x(api.ExprAnd, someExpr(r, 1), c(7)), par, in)
	case api.NodeUnion:
		n := node(kind, par, in)
		for range r.Intn(4) {
			n.In = append(n.In, r.Intn(nodes))
		}
		return n
	case api.NodeReduce:
		return reduce(aggr, par, in)
	default:
		return windowed(someWindow(r), aggr, par, in)
	}
}

// shuffled: the same nodes under other numbers, so that inputs may have higher ones.
func shuffled(r *rand.Rand, nodes []api.Node) []api.Node {
	to, l := r.Perm(len(nodes)), make([]api.Node, len(nodes))
	for i, n := range nodes {
		for k, in := range n.In {
			n.In[k] = to[in]
		}
		l[to[i]] = n
	}
	return l
}

func someJob(r *rand.Rand) api.Job {
	for {
		var nodes []api.Node
		for range 1 + r.Intn(2) {
			nodes = append(nodes, source(1+r.Intn(4)))
		}
		for range 1 + r.Intn(5) {
			nodes = append(nodes, someNode(r, len(nodes)))
		}
		inner := len(nodes)
		for range 1 + r.Intn(2) {
			nodes = append(nodes, sink(1+r.Intn(4), r.Intn(inner)))
		}
		if j := (api.Job{Nodes: shuffled(r, nodes)}); job.Check(j) == api.OK {
			return j
		}
	}
}

// someItems: marks that mostly rise, and records about them.
func someItems(r *rand.Rand) []api.Item {
	var l []api.Item
	time := r.Int63n(20) - 10
	for range r.Intn(16) {
		switch time += r.Int63n(6); r.Intn(5) {
		case 0:
			l = append(l, read(time))
		case 1:
			l = append(l, rec(r.Int63n(9)-2, r.Int63n(50)-10, r.Int63n(9)-2))
		default:
			l = append(l, rec(r.Int63n(9)-2, time+r.Int63n(12)-2, r.Int63n(9)-2))
		}
	}
	return l
}

func someLogs(r *rand.Rand, j api.Job, whole bool) api.Logs {
	l := make(api.Logs, len(j.Nodes))
	for i, n := range j.Nodes {
		for part := 0; n.Kind == api.NodeSource && part < n.Par; part++ {
			items := someItems(r)
			if whole {
				items = append(items, read(end))
			}
			l[i] = append(l[i], items)
		}
	}
	return l
}
