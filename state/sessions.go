package state

import (
	"slices"
	"sort"

	"leat/api"
)

// sessions: of each key the spans of its panes, rising, so that a session finds those that it overlaps without a look at all panes. Spans without a time overlap nothing, and aren't among them.
type sessions map[int64][]api.Span

// add: one more span of a key; it becomes one with those that it overlaps: tells that one, and those. As none of a key's spans overlap each other, those are neighbours, and they lead to no others.
func (o sessions) add(key int64, fresh api.Span) (api.Span, []api.Span) {
	if fresh.From >= fresh.To {
		return fresh, nil
	}
	l := o[key]
	first := sort.Search(len(l), func(i int) bool { return l[i].To > fresh.From })
	whole, end := fresh, first
	for end < len(l) && l[end].From < fresh.To {
		whole = api.Span{From: min(whole.From, l[end].From), To: max(whole.To, l[end].To)}
		end++
	}
	gone := append([]api.Span(nil), l[first:end]...)
	o[key] = slices.Replace(l, first, end, whole)
	return whole, gone
}

// end: the spans whose watermark has come are gone.
func (o sessions) end(mark int64) {
	for key, l := range o {
		l = slices.DeleteFunc(l, func(s api.Span) bool { return last(s) <= mark })
		if len(l) == 0 {
			delete(o, key)
		} else {
			o[key] = l
		}
	}
}
