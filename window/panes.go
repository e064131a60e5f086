package window

import (
	"cmp"
	"slices"

	"leat/agg"
	"leat/api"
)

// regular: the spans of that size, each beginning at a multiple of slide, that have t. They are counted ahead, so that whatever size and slide are, there are never too many.
func regular(size, slide, t int64) []api.Span {
	if slide < 1 {
		return nil
	}
	since := t % slide
	if since < 0 {
		since += slide
	}
	if since >= size {
		return nil
	}
	count := min((size-1-since)/slide+1, api.MaxWeight)
	spans := make([]api.Span, count)
	for i := range spans {
		from := t - since - (count-1-int64(i))*slide
		spans[i] = api.Span{From: from, To: from + size}
	}
	return spans
}

// withSpan: panes, and the place of the first one of fresh's key and span; fresh itself stands there, if there is none.
func withSpan(l []api.Pane, fresh api.Pane) ([]api.Pane, int) {
	for i, p := range l {
		if p.Key == fresh.Key && p.Span == fresh.Span {
			return l, i
		}
	}
	return append(l, fresh), len(l)
}

// withSession: panes, fresh and all that overlap it, through others too, being one, and that one's place. Only what Join makes of the panes tells which of them others lead to; those that fresh doesn't come to stay as they were.
func withSession(aggr int, l []api.Pane, fresh api.Pane) ([]api.Pane, int) {
	whole := fresh
	for _, p := range Join(aggr, l) {
		if overlap(fresh, p) {
			whole = joined(aggr, whole, p)
		}
	}
	l = slices.DeleteFunc(l, func(p api.Pane) bool { return overlap(whole, p) })
	return append(l, whole), len(l)
}

// overlap: whether two panes of one key have a time in both.
func overlap(a, b api.Pane) bool {
	return a.Key == b.Key && max(a.Span.From, b.Span.From) < min(a.Span.To, b.Span.To)
}

func isEmpty(s api.Span) bool { return s.From >= s.To }

// joined: of two panes that overlap.
func joined(aggr int, a, b api.Pane) api.Pane {
	span := api.Span{From: min(a.Span.From, b.Span.From), To: max(a.Span.To, b.Span.To)}
	return api.Pane{Key: a.Key, Span: span, Acc: agg.Merge(aggr, a.Acc, b.Acc)}
}

// byKey: how two panes stand to each other; only equal ones are as good as each other.
func byKey(a, b api.Pane) int {
	return cmp.Or(
		cmp.Compare(a.Key, b.Key),
		cmp.Compare(a.Span.From, b.Span.From),
		cmp.Compare(a.Span.To, b.Span.To),
		cmp.Compare(a.Acc, b.Acc),
	)
}

// sorted: a list in order, in memory of its own.
func sorted[T any](l []T, order func(a, b T) int) []T {
	l = copied(l)
	slices.SortFunc(l, order)
	return l
}

// copied: a list in memory of its own, an empty one too.
func copied[T any](l []T) []T { return append([]T(nil), l...) }
