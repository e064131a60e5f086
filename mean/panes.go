package mean

import (
	"leat/agg"
	"leat/api"
	"leat/window"
)

// place: a key and a span that its records fall into.
type place struct {
	key  int64
	span api.Span
}

// panesOf: of a reduce and a window, of all that came in, in any order. Sessions come together when all are there: one by one, each would be sought among all others.
func panesOf(n api.Node, in bag[api.Record]) []api.Pane {
	accs := map[place]int64{}
	for _, r := range in.runs {
		for _, span := range spansOf(n, r.thing.Time) {
			at := place{r.thing.Key, span}
			acc, there := accs[at]
			if !there {
				acc = agg.Zero(n.Agg)
			}
			accs[at] = added(n.Agg, acc, r.thing.Val, r.times)
		}
	}
	l := make([]api.Pane, 0, len(accs))
	for at, acc := range accs {
		l = append(l, api.Pane{Key: at.key, Span: at.span, Acc: acc})
	}
	if n.Win.Kind == api.WinSession {
		return window.Join(n.Agg, l)
	}
	return l
}

// spansOf: those that a time falls into. A reduce's one is such that window.Fire tells EndTime of it, and by MaxMark alone, as no other watermark of a log comes up to it.
func spansOf(n api.Node, t int64) []api.Span {
	if n.Kind == api.NodeReduce {
		return []api.Span{{From: api.MinMark, To: api.EndTime + 1}}
	}
	return window.Spans(n.Win, t)
}

// added: an acc with a value that is there several times.
func added(aggr int, acc, val int64, times int) int64 {
	for range times {
		acc = agg.Add(aggr, acc, val)
	}
	return acc
}
