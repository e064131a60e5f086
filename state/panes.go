package state

import (
	"leat/agg"
	"leat/api"
	"leat/window"
)

// place: a key and a span; a state has one pane there at most.
type place struct {
	key  int64
	span api.Span
}

func placeOf(p api.Pane) place { return place{p.Key, p.Span} }

// last: the watermark that a span's pane waits for.
func last(s api.Span) int64 { return s.To - 1 }

func (s *State) isReduce() bool { return s.win.Kind == 0 }

// spans: those that a time falls into. Package window knows no reduce.
func (s *State) spans(t int64) []api.Span {
	if s.isReduce() {
		return []api.Span{{From: api.MinMark, To: api.EndTime + 1}}
	}
	return window.Spans(s.win, t)
}

// lay: a pane becomes one with what lies at its place; a session's, with all that it overlaps.
func (s *State) lay(p api.Pane) {
	if s.win.Kind == api.WinSession {
		p = s.gathered(p)
	}
	at := placeOf(p)
	if acc, there := s.accs[at]; there {
		p.Acc = agg.Merge(s.aggr, acc, p.Acc)
	}
	s.accs[at] = p.Acc
}

// gathered: a session with all that it overlaps; those are gone.
func (s *State) gathered(p api.Pane) api.Pane {
	whole, gone := s.open.add(p.Key, p.Span)
	for _, span := range gone {
		at := place{p.Key, span}
		p.Acc = agg.Merge(s.aggr, s.accs[at], p.Acc)
		delete(s.accs, at)
	}
	p.Span = whole
	return p
}

// pick: the panes of wanted places, in any order.
func (s *State) pick(wanted func(at place) bool) []api.Pane {
	var l []api.Pane
	for at, acc := range s.accs {
		if wanted(at) {
			l = append(l, api.Pane{Key: at.key, Span: at.span, Acc: acc})
		}
	}
	return l
}
