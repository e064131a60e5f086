package ops

import (
	"leat/api"
	"leat/state"
)

// operator: what a kind of node does.
type operator interface {
	record(r api.Record) []api.Record
	mark(m int64) []api.Record
	panes() []api.Pane
	load(l []api.Pane)
	late() int
}

// operatorOf: a node's. Of a kind that is none nothing ever comes, as a job with such a node commits nothing.
func operatorOf(n api.Node) operator {
	switch n.Kind {
	case api.NodeMap:
		return mapping{e: own(n.E)}
	case api.NodeFilter:
		return filter{e: own(n.E)}
	case api.NodeKey:
		return keying{e: own(n.E)}
	case api.NodeSource, api.NodeUnion, api.NodeSink:
		return passing{}
	case api.NodeReduce:
		return &reduce{keyed: newKeyed(state.New(api.Window{}, n.Agg))}
	case api.NodeWindow:
		return &windowed{keyed: newKeyed(state.New(n.Win, n.Agg)), win: n.Win, aggr: n.Agg}
	}
	return stateless{}
}
