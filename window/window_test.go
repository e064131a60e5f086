package window_test

import (
	"math"
	"slices"
	"testing"

	"leat/agg"
	"leat/api"
	"leat/window"
)

// aggs: all of api's.
var aggs = []int{api.AggSum, api.AggCount, api.AggMin, api.AggMax, api.AggXor}

func tumbling(size int64) api.Window { return api.Window{Kind: api.WinTumbling, Size: size} }

func sliding(size, slide int64) api.Window {
	return api.Window{Kind: api.WinSliding, Size: size, Slide: slide}
}

func session(size int64) api.Window { return api.Window{Kind: api.WinSession, Size: size} }

// spans: of pairs, each a From and a To.
func spans(ends ...int64) []api.Span {
	var l []api.Span
	for i := 0; i < len(ends); i += 2 {
		l = append(l, api.Span{From: ends[i], To: ends[i+1]})
	}
	return l
}

func pane(key, from, to, acc int64) api.Pane {
	return api.Pane{Key: key, Span: api.Span{From: from, To: to}, Acc: acc}
}

func record(key, time, val int64) api.Record { return api.Record{Key: key, Time: time, Val: val} }

// filled: the panes of records that come one behind the other.
func filled(w api.Window, aggr int, recs ...api.Record) []api.Pane {
	var l []api.Pane
	for _, r := range recs {
		l = window.Put(w, aggr, l, r)
	}
	return l
}

func same[T comparable](t *testing.T, what string, got []T, want ...T) {
	t.Helper()
	if !slices.Equal(got, want) {
		t.Errorf("%s: %v, wanted %v", what, got, want)
	}
}

func TestSpans(t *testing.T) {
	const far = 1 << 50
	for _, x := range []struct {
		w    api.Window
		t    int64
		want []api.Span
	}{
		{tumbling(10), 0, spans(0, 10)},
		{tumbling(10), 9, spans(0, 10)},
		{tumbling(10), 10, spans(10, 20)},
		{tumbling(10), -1, spans(-10, 0)},
		{tumbling(10), -10, spans(-10, 0)},
		{tumbling(10), -11, spans(-20, -10)},
		{tumbling(1), 7, spans(7, 8)},
		{tumbling(1), -7, spans(-7, -6)},
		{tumbling(3), far, spans(far-1, far+2)}, // 2^50 is 1 modulo 3
		{tumbling(3), -far, spans(-far-2, -far+1)},
		{tumbling(api.MaxSpan), -1, spans(-api.MaxSpan, 0)},
		{tumbling(api.MaxSpan), api.MaxSpan - 1, spans(0, api.MaxSpan)},
		{tumbling(api.MaxSpan), far, spans(far, far+api.MaxSpan)},

		{sliding(10, 4), 9, spans(0, 10, 4, 14, 8, 18)},
		{sliding(10, 4), 10, spans(4, 14, 8, 18)},
		{sliding(10, 4), 12, spans(4, 14, 8, 18, 12, 22)},
		{sliding(10, 4), 0, spans(-8, 2, -4, 6, 0, 10)},
		{sliding(10, 4), -1, spans(-8, 2, -4, 6)},
		{sliding(10, 4), -4, spans(-12, -2, -8, 2, -4, 6)},
		{sliding(10, 10), 10, spans(10, 20)},
		{sliding(10, 10), -1, spans(-10, 0)},
		{sliding(10, 5), 5, spans(0, 10, 5, 15)},
		{sliding(10, 5), -5, spans(-10, 0, -5, 5)},
		{sliding(3, 1), 0, spans(-2, 1, -1, 2, 0, 3)},
		{sliding(1, 1), -9, spans(-9, -8)},
		{sliding(2, 5), 0, spans(0, 2)},
		{sliding(2, 5), 1, spans(0, 2)},
		{sliding(2, 5), 2, nil},
		{sliding(2, 5), 4, nil},
		{sliding(2, 5), 5, spans(5, 7)},
		{sliding(2, 5), -1, nil},
		{sliding(2, 5), -3, nil},
		{sliding(2, 5), -4, spans(-5, -3)},
		{sliding(2, 5), -5, spans(-5, -3)},
		{sliding(2, 5), -6, nil},
		{sliding(1, api.MaxSpan), -api.MaxSpan, spans(-api.MaxSpan, -api.MaxSpan+1)},
		{sliding(1, api.MaxSpan), far + 1, nil},
		{sliding(4, 3), far, spans(far-1, far+3)},
		{sliding(4, 3), -far, spans(-far-2, -far+2)},
		{sliding(4, 3), far - 1, spans(far-4, far, far-1, far+3)},

		{session(5), 0, spans(0, 5)},
		{session(5), -2, spans(-2, 3)},
		{session(1), 8, spans(8, 9)},
		{session(api.MaxSpan), far, spans(far, far+api.MaxSpan)},
		{session(api.MaxSpan), -far, spans(-far, -far+api.MaxSpan)},
	} {
		if got := window.Spans(x.w, x.t); !slices.Equal(got, x.want) {
			t.Errorf("P11.1: Spans(%v, %d): %v, wanted %v", x.w, x.t, got, x.want)
		}
	}
}

// TestManySpans: as many as a job may ask for.
func TestManySpans(t *testing.T) {
	for _, slide := range []int64{1, 3, api.MaxSpan / api.MaxWeight} {
		for _, at := range []int64{0, 1, -1, slide, -slide, 1<<50 - 1, -1 << 50} {
			size := slide * api.MaxWeight
			l := window.Spans(sliding(size, slide), at)
			if len(l) != api.MaxWeight {
				t.Fatalf("P11.1: %d by %d, at %d: %d spans", size, slide, at, len(l))
			}
			for i, s := range l {
				if s.From%slide != 0 || s.To != s.From+size || at < s.From || at >= s.To || i > 0 && s.From != l[i-1].From+slide {
					t.Fatalf("P11.1: %d by %d, at %d: %v in %v", size, slide, at, s, l)
				}
			}
		}
	}
}

func TestSort(t *testing.T) {
	same(t, "P11.2: Sort", window.Sort([]api.Pane{
		pane(2, 0, 1, 0), pane(1, 5, 6, 0), pane(1, 5, 9, -1), pane(1, 5, 6, -4), pane(-1, 9, 9, 9), pane(1, -5, 7, 3),
		pane(math.MaxInt64, 0, 1, 0), pane(math.MinInt64, 0, 1, 0), pane(1, 5, 6, 0),
	}),
		pane(math.MinInt64, 0, 1, 0), pane(-1, 9, 9, 9), pane(1, -5, 7, 3), pane(1, 5, 6, -4), pane(1, 5, 6, 0), pane(1, 5, 6, 0),
		pane(1, 5, 9, -1), pane(2, 0, 1, 0), pane(math.MaxInt64, 0, 1, 0))
	same(t, "P11.2: Sort by Acc alone", window.Sort([]api.Pane{pane(1, 0, 1, math.MaxInt64), pane(1, 0, 1, math.MinInt64), pane(1, 0, 1, 0)}),
		pane(1, 0, 1, math.MinInt64), pane(1, 0, 1, 0), pane(1, 0, 1, math.MaxInt64))
	same(t, "P11.2: Sort of nil", window.Sort(nil))
	same(t, "P11.2: Sort of nothing", window.Sort([]api.Pane{}))
}

func TestPut(t *testing.T) {
	same(t, "P11.2: tumbling", filled(tumbling(10), api.AggSum, record(1, 3, 5), record(1, 10, 4), record(1, 7, 2), record(-1, 7, 8)),
		pane(-1, 0, 10, 8), pane(1, 0, 10, 7), pane(1, 10, 20, 4))
	same(t, "P11.2: sliding", filled(sliding(10, 4), api.AggSum, record(1, 9, 1), record(1, 12, 10)),
		pane(1, 0, 10, 1), pane(1, 4, 14, 11), pane(1, 8, 18, 11), pane(1, 12, 22, 10))
	same(t, "P11.2: a record without a span", window.Put(sliding(2, 5), api.AggSum, []api.Pane{pane(2, 5, 7, 1), pane(1, 5, 7, 1)}, record(1, 7, 9)),
		pane(1, 5, 7, 1), pane(2, 5, 7, 1))
	for _, w := range []api.Window{tumbling(10), sliding(10, 10), session(10)} {
		for _, aggr := range aggs {
			for _, l := range [][]int64{{7}, {-7}, {7, 5}, {5, -3, 5}, {math.MaxInt64, 1}, {math.MinInt64, -1, 0}} {
				var recs []api.Record
				for _, val := range l {
					recs = append(recs, record(4, 20, val))
				}
				same(t, "P11.2: the aggregate", filled(w, aggr, recs...), pane(4, 20, 30, agg.All(aggr, l)))
			}
		}
	}
}

// TestPutAlike: a pane is asked for by its key and its whole span; where several have both, the first one counts.
func TestPutAlike(t *testing.T) {
	same(t, "P11.2: a span that is like another one", window.Put(tumbling(10), api.AggSum, []api.Pane{pane(1, 0, 9, 1), pane(1, 1, 10, 2), pane(2, 0, 10, 3)}, record(1, 5, 10)),
		pane(1, 0, 9, 1), pane(1, 0, 10, 10), pane(1, 1, 10, 2), pane(2, 0, 10, 3))
	same(t, "P11.2: several of one span", window.Put(tumbling(10), api.AggSum, []api.Pane{pane(1, 0, 10, 5), pane(1, 0, 10, 3)}, record(1, 5, 10)),
		pane(1, 0, 10, 3), pane(1, 0, 10, 15))
}

func TestPutSession(t *testing.T) {
	w := session(5)
	same(t, "P11.2: 0 and 4", filled(w, api.AggSum, record(1, 0, 1), record(1, 4, 2)), pane(1, 0, 9, 3))
	same(t, "P11.2: 0 and 5", filled(w, api.AggSum, record(1, 0, 1), record(1, 5, 2)), pane(1, 0, 5, 1), pane(1, 5, 10, 2))
	same(t, "P11.2: 5 and 0", filled(w, api.AggSum, record(1, 5, 2), record(1, 0, 1)), pane(1, 0, 5, 1), pane(1, 5, 10, 2))
	same(t, "P11.2: 0, 8 and 4", filled(w, api.AggCount, record(1, 0, 9), record(1, 8, 9), record(1, 4, 9)), pane(1, 0, 13, 3))
	same(t, "P11.2: the same time", filled(w, api.AggXor, record(1, 3, 6), record(1, 3, 3)), pane(1, 3, 8, 5))
	same(t, "P11.2: other keys", filled(w, api.AggMax, record(1, 0, 1), record(2, 1, 5), record(1, 2, -3)), pane(1, 0, 7, 1), pane(2, 1, 6, 5))
	same(t, "P11.2: within a greater one", window.Put(w, api.AggMin, []api.Pane{pane(1, 0, 90, 4)}, record(1, 40, 7)), pane(1, 0, 90, 4))
	same(t, "P11.2: about lesser ones", window.Put(w, api.AggSum, []api.Pane{pane(1, 12, 13, 4), pane(1, 10, 11, 1), pane(1, 15, 16, 9)}, record(1, 10, 7)),
		pane(1, 10, 15, 12), pane(1, 15, 16, 9))
	same(t, "P11.2: its ends", window.Put(w, api.AggSum, []api.Pane{pane(1, 8, 10, 1), pane(1, 15, 17, 2), pane(1, 14, 15, 4), pane(1, 9, 11, 8)}, record(1, 10, 16)),
		pane(1, 8, 15, 29), pane(1, 15, 17, 2))
	same(t, "P11.2: panes that only the greater span comes to", window.Put(w, api.AggSum,
		[]api.Pane{pane(1, 40, 41, 1), pane(1, 30, 41, 2), pane(1, 22, 31, 4), pane(1, 14, 23, 8), pane(1, 0, 3, 16), pane(1, 2, 11, 32), pane(1, 50, 60, 64), pane(1, 55, 65, 128), pane(2, 0, 99, 256)},
		record(1, 10, 512)),
		pane(1, 0, 41, 512+63), pane(1, 50, 60, 64), pane(1, 55, 65, 128), pane(2, 0, 99, 256))
	same(t, "P11.2: one that lies within what others lead to", window.Put(w, api.AggSum, []api.Pane{pane(1, 0, 11, 1), pane(1, 5, 6, 2), pane(1, -3, 0, 4)}, record(1, 10, 8)),
		pane(1, -3, 0, 4), pane(1, 0, 15, 11))
	same(t, "P11.2: spans without a time", window.Put(w, api.AggSum, []api.Pane{pane(1, 12, 12, 1), pane(1, 13, 11, 2), pane(1, 8, 12, 4)}, record(1, 10, 8)),
		pane(1, 8, 15, 12), pane(1, 12, 12, 1), pane(1, 13, 11, 2))
}

func TestJoin(t *testing.T) {
	same(t, "P11.3: Join of nothing", window.Join(api.AggSum, nil))
	same(t, "P11.3: one", window.Join(api.AggCount, []api.Pane{pane(1, 0, 5, 7)}), pane(1, 0, 5, 7))
	same(t, "P11.3: neighbours", window.Join(api.AggSum, []api.Pane{pane(1, 5, 9, 1), pane(1, 0, 5, 2)}), pane(1, 0, 5, 2), pane(1, 5, 9, 1))
	same(t, "P11.3: by one time", window.Join(api.AggSum, []api.Pane{pane(1, 4, 9, 1), pane(1, 0, 5, 2)}), pane(1, 0, 9, 3))
	same(t, "P11.3: the same span", window.Join(api.AggSum, []api.Pane{pane(1, 4, 9, 1), pane(1, 4, 9, 1)}), pane(1, 4, 9, 2))
	same(t, "P11.3: one within another", window.Join(api.AggMax, []api.Pane{pane(1, 0, 9, 1), pane(1, 2, 3, 5), pane(1, 8, 10, 3)}), pane(1, 0, 10, 5))
	same(t, "P11.3: through others", window.Join(api.AggXor, []api.Pane{pane(1, 9, 12, 1), pane(1, 0, 4, 2), pane(1, 3, 10, 4), pane(1, 12, 13, 8)}), pane(1, 0, 12, 7), pane(1, 12, 13, 8))
	same(t, "P11.3: keys", window.Join(api.AggSum, []api.Pane{pane(2, 0, 9, 1), pane(1, 0, 9, 2), pane(2, 8, 20, 4), pane(1, 30, 31, 8), pane(2, 19, 31, 16)}),
		pane(1, 0, 9, 2), pane(1, 30, 31, 8), pane(2, 0, 31, 21))
	same(t, "P11.3: counts are merged, not counted", window.Join(api.AggCount, []api.Pane{pane(1, 0, 9, 3), pane(1, 1, 2, 4)}), pane(1, 0, 9, 7))
	same(t, "P11.3: the least", window.Join(api.AggMin, []api.Pane{pane(1, 0, 9, 3), pane(1, 1, 2, -4)}), pane(1, 0, 9, -4))
	same(t, "P11.3: spans without a time", window.Join(api.AggSum, []api.Pane{pane(1, 0, 10, 1), pane(1, 5, 5, 2), pane(1, 5, 5, 2), pane(1, 7, 3, 4), pane(1, 7, 12, 8), pane(2, 0, 0, 16), pane(2, 0, 3, 32)}),
		pane(1, 0, 12, 9), pane(1, 5, 5, 2), pane(1, 5, 5, 2), pane(1, 7, 3, 4), pane(2, 0, 0, 16), pane(2, 0, 3, 32))
}

func TestFire(t *testing.T) {
	l := []api.Pane{pane(2, 0, 10, 1), pane(1, 5, 10, 2), pane(1, 0, 11, 3), pane(1, 0, 9, 4), pane(1, 5, 10, -2)}
	all := []api.Record{record(1, 8, 4), record(1, 10, 3), record(1, 9, -2), record(1, 9, 2), record(2, 9, 1)}
	for _, x := range []struct {
		mark  int64
		fired []api.Record
		left  []api.Pane
	}{
		{api.MinMark, nil, window.Sort(l)},
		{7, nil, window.Sort(l)},
		{8, all[:1], []api.Pane{pane(1, 0, 11, 3), pane(1, 5, 10, -2), pane(1, 5, 10, 2), pane(2, 0, 10, 1)}},
		{9, []api.Record{all[0], all[2], all[3], all[4]}, []api.Pane{pane(1, 0, 11, 3)}},
		{10, all, nil},
		{11, all, nil},
		{api.MaxMark, all, nil},
	} {
		fired, left := window.Fire(l, x.mark)
		same(t, "P11.3: fired", fired, x.fired...)
		same(t, "P11.3: left", left, x.left...)
	}
	for _, none := range [][]api.Pane{nil, {}} {
		fired, left := window.Fire(none, api.MaxMark)
		same(t, "P11.3: fired of nothing", fired)
		same(t, "P11.3: left of nothing", left)
	}
	fired, left := window.Fire([]api.Pane{pane(3, -9, 0, 1), pane(3, -9, 1, 2)}, -1)
	same(t, "P11.3: fired below 0", fired, record(3, -1, 1))
	same(t, "P11.3: left at 0", left, pane(3, -9, 1, 2))
}

// TestReadme: what README.md tells of windows.
func TestReadme(t *testing.T) {
	w := api.Window{Kind: api.WinSession, Size: 5}
	var l []api.Pane
	for _, time := range []int64{0, 8, 4, 20} {
		l = window.Put(w, api.AggCount, l, api.Record{Key: 1, Time: time})
	}
	same(t, "P11.2: panes", l, pane(1, 0, 13, 3), pane(1, 20, 25, 1))
	recs, left := window.Fire(l, 12)
	same(t, "P11.3: fired", recs, record(1, 12, 3))
	same(t, "P11.3: left", left, pane(1, 20, 25, 1))
}
