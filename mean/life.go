package mean

import (
	"leat/api"
	"leat/expr"
	"leat/job"
	"leat/window"
)

// life: of each node what came out of it, and the panes that are left there.
type life struct {
	outs []bag[api.Record]
	left [][]api.Pane
}

// live: what becomes of all items of the logs, when each node has had its watermark.
func live(j api.Job, l api.Logs, marks []int64) life {
	all := life{outs: make([]bag[api.Record], len(j.Nodes)), left: make([][]api.Pane, len(j.Nodes))}
	for _, i := range job.Order(j) {
		n := j.Nodes[i]
		if n.Kind == api.NodeSource {
			all.outs[i] = recordsOf(l[i])
		} else {
			all.outs[i], all.left[i] = work(n, all.into(n), marks[i])
		}
	}
	return all
}

// liveUpTo: what becomes of the items that were read.
func liveUpTo(j api.Job, l api.Logs, offsets [][]int) life {
	l = read(l, offsets)
	return live(j, l, leasts(marksOf(j, l)))
}

// recordsOf: those of a source that aren't late.
func recordsOf(partitions [][]api.Item) bag[api.Record] {
	var l []api.Record
	for _, items := range partitions {
		for _, it := range Late(items) {
			if it.Kind == api.ItemRecord {
				l = append(l, it.Rec)
			}
		}
	}
	return bagOf(byKey, l)
}

// into: what comes into a node whose inputs have their bags.
func (all life) into(n api.Node) bag[api.Record] {
	ins := make([]bag[api.Record], len(n.In))
	for i, from := range n.In {
		ins[i] = all.outs[from]
	}
	return sum(byKey, ins)
}

// work: what comes out of a node that is no source, and the panes that are left.
func work(n api.Node, in bag[api.Record], mark int64) (bag[api.Record], []api.Pane) {
	switch n.Kind {
	case api.NodeMap, api.NodeFilter, api.NodeKey:
		return in.turned(func(r api.Record) (api.Record, bool) { return turn(n, r) }), nil
	case api.NodeReduce, api.NodeWindow:
		fired, left := window.Fire(panesOf(n, in), mark)
		return bagOf(byKey, fired), left
	}
	return in, nil
}

// turn: what a map, a filter, a key makes of a record, if anything.
func turn(n api.Node, r api.Record) (api.Record, bool) {
	switch x := expr.Eval(n.E, r); n.Kind {
	case api.NodeMap:
		r.Val = x
	case api.NodeKey:
		r.Key = x
	case api.NodeFilter:
		return r, x != 0
	}
	return r, true
}
