package ops

import (
	"leat/api"
	"leat/state"
	"leat/window"
)

// keyed: what a reduce and a window have in common.
type keyed struct {
	held     *state.State
	aside    []api.Pane // still to be loaded into held
	greatest int64      // of the marks that it had
	dropped  int        // records that were late
}

func newKeyed(s *state.State) keyed { return keyed{held: s, greatest: api.MinMark} }

func (k *keyed) mark(m int64) []api.Record {
	if m <= k.greatest {
		return nil
	}
	k.greatest = m
	k.settle()
	return k.held.Fire(m)
}

func (k *keyed) panes() []api.Pane {
	k.settle()
	return k.held.Panes()
}

func (k *keyed) load(l []api.Pane) {
	k.aside = nil
	k.held.Load(l)
}

func (k *keyed) late() int { return k.dropped }

// lay: panes come into the state. It must be loaded anew for that, whole; so they wait till there are more of them than it has, lest each record cost as much as all panes.
func (k *keyed) lay(l []api.Pane) {
	k.aside = append(k.aside, l...)
	if len(k.aside) > k.held.Len() {
		k.settle()
	}
}

// settle: panes that wait come into the state, ahead of any look at it.
func (k *keyed) settle() {
	if len(k.aside) == 0 {
		return
	}
	k.held.Load(append(k.held.Panes(), k.aside...))
	k.aside = nil
}

type reduce struct{ keyed }

func (o *reduce) record(r api.Record) []api.Record {
	o.held.Put(r)
	return nil
}

type windowed struct {
	keyed
	win  api.Window
	aggr int
}

func (o *windowed) record(r api.Record) []api.Record {
	spans := window.Spans(o.win, r.Time)
	switch ended := o.ended(spans); {
	case len(spans) == 0: // in no window
	case ended == len(spans):
		o.dropped++
	case ended == 0:
		o.held.Put(r)
	default:
		o.lay(o.open(r))
	}
	return nil
}

// ended: how many of the spans are late.
func (o *windowed) ended(spans []api.Span) int {
	n := 0
	for _, s := range spans {
		if s.To-1 <= o.greatest {
			n++
		}
	}
	return n
}

// open: a record's panes without those of its spans that are late. The state's own Put knows no such choice.
func (o *windowed) open(r api.Record) []api.Pane {
	_, open := window.Fire(window.Put(o.win, o.aggr, nil, r), o.greatest)
	return open
}
