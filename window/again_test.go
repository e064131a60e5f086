package window_test

import (
	"math"
	"math/rand"
	"slices"
	"testing"

	"leat/agg"
	"leat/api"
	"leat/window"
)

// plainSpans: out of all multiples near by.
func plainSpans(w api.Window, t int64) []api.Span {
	step := w.Slide
	switch w.Kind {
	case api.WinSession:
		return []api.Span{{From: t, To: t + w.Size}}
	case api.WinTumbling:
		step = w.Size
	}
	var l []api.Span
	for k := -abs(t)/step - w.Size/step - 2; k*step <= t; k++ {
		if from := k * step; t < from+w.Size {
			l = append(l, api.Span{From: from, To: from + w.Size})
		}
	}
	return l
}

func abs(n int64) int64 { return max(n, -n) }

// both: whether one of the times of a span is in another one, asked one by one.
func both(a, b api.Span) bool {
	for t := a.From; t < a.To; t++ {
		if b.From <= t && t < b.To {
			return true
		}
	}
	return false
}

// plainJoin: two that overlap become one, until there are none.
func plainJoin(aggr int, l []api.Pane) []api.Pane {
	l = slices.Clone(l)
	for {
		i, k := someTwo(l)
		if k < 0 {
			return plainSort(l)
		}
		l[i] = plainMerge(aggr, l[i], l[k])
		l = slices.Delete(l, k, k+1)
	}
}

func someTwo(l []api.Pane) (int, int) {
	for i := range l {
		for k := i + 1; k < len(l); k++ {
			if l[i].Key == l[k].Key && both(l[i].Span, l[k].Span) {
				return i, k
			}
		}
	}
	return -1, -1
}

func plainMerge(aggr int, a, b api.Pane) api.Pane {
	a.Span.From = min(a.Span.From, b.Span.From)
	a.Span.To = max(a.Span.To, b.Span.To)
	a.Acc = agg.Merge(aggr, a.Acc, b.Acc)
	return a
}

// plainSort: the least of those that are left, again and again.
func plainSort(l []api.Pane) []api.Pane {
	l = slices.Clone(l)
	var out []api.Pane
	for len(l) > 0 {
		least := 0
		for i, p := range l {
			if slices.Compare(numbers(p), numbers(l[least])) < 0 {
				least = i
			}
		}
		out = append(out, l[least])
		l = slices.Delete(l, least, least+1)
	}
	return out
}

func numbers(p api.Pane) []int64 { return []int64{p.Key, p.Span.From, p.Span.To, p.Acc} }

// plainPut: as the chapter tells it.
func plainPut(w api.Window, aggr int, l []api.Pane, r api.Record) []api.Pane {
	l = slices.Clone(l)
	if w.Kind == api.WinSession {
		one := api.Pane{Key: r.Key, Span: api.Span{From: r.Time, To: r.Time + w.Size}, Acc: agg.Add(aggr, agg.Zero(aggr), r.Val)}
		for {
			i := slices.IndexFunc(l, func(p api.Pane) bool { return p.Key == one.Key && both(one.Span, p.Span) })
			if i < 0 {
				return plainSort(append(l, one))
			}
			one = plainMerge(aggr, one, l[i])
			l = slices.Delete(l, i, i+1)
		}
	}
	for _, s := range plainSpans(w, r.Time) {
		i := slices.IndexFunc(l, func(p api.Pane) bool { return p.Key == r.Key && p.Span == s })
		if i < 0 {
			l = append(l, api.Pane{Key: r.Key, Span: s, Acc: agg.All(aggr, []int64{r.Val})})
		} else {
			l[i].Acc = agg.Add(aggr, l[i].Acc, r.Val)
		}
	}
	return plainSort(l)
}

func someWindow(r *rand.Rand) api.Window {
	size := 1 + r.Int63n(12)
	switch r.Intn(3) {
	case 0:
		return tumbling(size)
	case 1:
		return session(size)
	}
	return sliding(size, 1+r.Int63n(15))
}

func someRecord(r *rand.Rand) api.Record {
	return record(r.Int63n(3)-1, r.Int63n(60)-30, int64(r.Uint64())>>r.Intn(64))
}

// somePanes: such as a window may have, and also others: that overlap, that are there twice, that have no time, in any order.
func somePanes(r *rand.Rand, size int) []api.Pane {
	l := make([]api.Pane, size)
	for i := range l {
		from := r.Int63n(60) - 30
		l[i] = pane(r.Int63n(3)-1, from, from+r.Int63n(12)-1, r.Int63n(20)-10)
		if i > 0 && r.Intn(8) == 0 {
			l[i] = l[r.Intn(i)]
		}
	}
	return l
}

func TestSpansPlain(t *testing.T) {
	r := rand.New(rand.NewSource(11))
	for range 20000 {
		w, at := someWindow(r), r.Int63n(200)-100
		if got, want := window.Spans(w, at), plainSpans(w, at); !slices.Equal(got, want) {
			t.Fatalf("P11.1: Spans(%v, %d): %v, wanted %v", w, at, got, want)
		}
	}
}

func TestPanesPlain(t *testing.T) {
	r := rand.New(rand.NewSource(112))
	for range 20000 {
		w, aggr, l, x := someWindow(r), 1+r.Intn(5), somePanes(r, r.Intn(16)), someRecord(r)
		if got, want := window.Sort(l), plainSort(l); !slices.Equal(got, want) {
			t.Fatalf("P11.2: Sort(%v): %v, wanted %v", l, got, want)
		}
		if got, want := window.Put(w, aggr, l, x), plainPut(w, aggr, l, x); !slices.Equal(got, want) {
			t.Fatalf("P11.2: Put(%v, %d, %v, %v): %v, wanted %v", w, aggr, l, x, got, want)
		}
		if got, want := window.Join(aggr, l), plainJoin(aggr, l); !slices.Equal(got, want) {
			t.Fatalf("P11.3: Join(%d, %v): %v, wanted %v", aggr, l, got, want)
		}
		mark := r.Int63n(80) - 40
		fired, left := window.Fire(l, mark)
		var due []api.Record
		late := func(p api.Pane) bool { return p.Span.To-1 <= mark }
		for _, p := range plainSort(l) {
			if late(p) {
				due = append(due, record(p.Key, p.Span.To-1, p.Acc))
			}
		}
		if rest := slices.DeleteFunc(plainSort(l), late); !slices.Equal(fired, due) || !slices.Equal(left, rest) {
			t.Fatalf("P11.3: Fire(%v, %d): %v and %v, wanted %v and %v", l, mark, fired, left, due, rest)
		}
	}
}

// TestAnyOrder: records that come in any order make the same panes: those of a plain reckoning over all of them at once.
func TestAnyOrder(t *testing.T) {
	r := rand.New(rand.NewSource(114))
	for range 3000 {
		w, aggr := someWindow(r), 1+r.Intn(5)
		recs := make([]api.Record, r.Intn(24))
		for i := range recs {
			recs[i] = someRecord(r)
		}
		want := panesAtOnce(w, aggr, recs)
		for range 4 {
			if got := filled(w, aggr, recs...); !slices.Equal(got, want) {
				t.Fatalf("P11.4: %v, %d, of %v: %v, wanted %v", w, aggr, recs, got, want)
			}
			r.Shuffle(len(recs), func(i, k int) { recs[i], recs[k] = recs[k], recs[i] })
		}
		if i, k := someTwo(want); w.Kind == api.WinSession && k >= 0 {
			t.Fatalf("P11.4: %v and %v overlap", want[i], want[k])
		}
	}
}

func panesAtOnce(w api.Window, aggr int, recs []api.Record) []api.Pane {
	vals := map[api.Pane][]int64{} // by panes without an acc
	for _, x := range recs {
		for _, s := range plainSpans(w, x.Time) {
			vals[api.Pane{Key: x.Key, Span: s}] = append(vals[api.Pane{Key: x.Key, Span: s}], x.Val)
		}
	}
	var l []api.Pane
	for p, some := range vals {
		p.Acc = agg.All(aggr, some)
		l = append(l, p)
	}
	if w.Kind == api.WinSession {
		return plainJoin(aggr, l)
	}
	return plainSort(l)
}

// TestParts: panes of records that came apart, joined, are those of all of them.
func TestParts(t *testing.T) {
	r := rand.New(rand.NewSource(113))
	for range 3000 {
		w, aggr := session(1+r.Int63n(9)), 1+r.Intn(5)
		recs := make([]api.Record, r.Intn(20))
		for i := range recs {
			recs[i] = someRecord(r)
		}
		cut := r.Intn(len(recs) + 1)
		apart := slices.Concat(filled(w, aggr, recs[:cut]...), filled(w, aggr, recs[cut:]...))
		if got, want := window.Join(aggr, apart), filled(w, aggr, recs...); !slices.Equal(got, want) {
			t.Fatalf("P11.4: joined %v, wanted %v: %v", got, want, recs)
		}
	}
}

// TestLeftAlone: what is handed in stays, with the room behind it, and no answer shares its memory.
func TestLeftAlone(t *testing.T) {
	r := rand.New(rand.NewSource(30))
	for range 2000 {
		whole := somePanes(r, 16)
		was := slices.Clone(whole)
		l := whole[:r.Intn(len(whole)+1)]
		w, aggr, x, mark := someWindow(r), 1+r.Intn(5), someRecord(r), r.Int63n(60)-30
		answers := func() [][]api.Pane {
			_, left := window.Fire(l, mark)
			return [][]api.Pane{left, window.Sort(l), window.Put(w, aggr, l, x), window.Join(aggr, l)}
		}
		first := answers()
		if !slices.Equal(whole, was) {
			t.Fatalf("P11.2: what was handed in is %v, was %v", whole, was)
		}
		kept := answers()
		for i, a := range first {
			a = a[:cap(a)]
			for k := range a {
				a[k] = pane(99, 99, 99, 99)
			}
			if again := answers(); !slices.Equal(whole, was) || !slices.Equal(again[i], kept[i]) {
				t.Fatalf("P11.2: an answer that was written over altered %v to %v", was, whole)
			}
		}
	}
}

// strange: numbers that a window's fields may have, though no job has them.
var strange = []int64{math.MinInt64, math.MinInt64 + 1, -1 << 62, -1 << 50, -10, -1, 0, 1, 2, 3, 10, 64, 65, 1 << 36, 1<<36 + 1, 1 << 50, 1<<62 + 1, math.MaxInt64 - 1, math.MaxInt64}

// TestStrange: all arguments are taken, and no record has more than MaxWeight spans.
func TestStrange(t *testing.T) {
	for _, kind := range []int{math.MinInt, -1, 0, api.WinTumbling, api.WinSliding, api.WinSession, 4, 1<<32 + 1, math.MaxInt} {
		for _, size := range strange {
			for _, slide := range strange {
				w := api.Window{Kind: kind, Size: size, Slide: slide}
				for _, at := range strange {
					if l := window.Spans(w, at); len(l) > api.MaxWeight {
						t.Fatalf("P11.1: Spans(%v, %d): %d spans", w, at, len(l))
					}
				}
				strangePut(w, size, slide)
			}
		}
	}
}

func strangePut(w api.Window, a, b int64) {
	l := []api.Pane{pane(1, a, b, a), pane(1, b, a, b), pane(a, a, a, a), pane(1, 0, 10, 5)}
	for _, aggr := range []int{math.MinInt, -1, 0, api.AggSum, api.AggMin, 6, math.MaxInt} {
		for range 3 {
			l = window.Put(w, aggr, l, record(1, a, b))
		}
		window.Fire(l, a)
		l = window.Join(aggr, l)
	}
}

// TestLong: rows of many panes that lead to one another are joined in a time that grows with them, not with their square.
func TestLong(t *testing.T) {
	const many = 1 << 18
	row, apart, empty := make([]api.Pane, many), make([]api.Pane, many), make([]api.Pane, many)
	for i := range row {
		at := int64(i) * 2
		row[i], apart[many-1-i], empty[i] = pane(1, at, at+3, 1), pane(1, at, at+2, 1), pane(1, at, at, 1)
	}
	end := int64(many) * 2
	one := pane(1, 0, end+1, many)
	same(t, "P11.3: a row", window.Join(api.AggSum, row), one)
	one.Acc, one.Span.To = many+1, end+5
	same(t, "P11.2: a row's last one", window.Put(session(5), api.AggSum, row, record(1, end, 1)), one)
	if l := window.Join(api.AggSum, slices.Concat(apart, empty)); len(l) != 2*many {
		t.Errorf("P11.3: %d panes, wanted %d", len(l), 2*many)
	}
	same(t, "P11.2: an answer of one session", window.Put(session(end), api.AggSum, apart, record(1, 0, 1)), pane(1, 0, end, many+1))
}
