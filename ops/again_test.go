package ops_test

import (
	"math"
	"math/rand"
	"runtime"
	"slices"
	"testing"

	"leat/agg"
	"leat/api"
	"leat/expr"
	"leat/ops"
)

// strange: numbers that fields may have, though no job has them.
var strange = []int64{math.MinInt64, math.MinInt64 + 1, -1 << 50, -10, -1, 0, 1, 2, 10, 64, 1 << 36, 1 << 41, 1<<41 + 1, 1 << 50, math.MaxInt64 - 1, math.MaxInt64}

func someExpr(r *rand.Rand, deep int) api.Expr {
	if deep == 0 || r.Intn(3) == 0 {
		return []api.Expr{key, at, val, c(r.Int63n(9) - 4)}[r.Intn(4)]
	}
	return x(api.ExprAdd+r.Intn(api.ExprIf-api.ExprAdd), someExpr(r, deep-1), someExpr(r, deep-1))
}

func someWindow(r *rand.Rand) api.Window {
	size := 1 + r.Int63n(12)
	switch r.Intn(4) {
	case 0:
		return tumbling(size)
	case 1:
		return session(size)
	}
	return sliding(size, 1+r.Int63n(15))
}

func someNode(r *rand.Rand) api.Node {
	switch kind := api.NodeSource + r.Intn(8); kind {
	case api.NodeMap, api.NodeFilter, api.NodeKey:
		return by(kind, someExpr(r, 3))
	case api.NodeReduce:
		return reduce(api.AggSum + r.Intn(5))
	case api.NodeWindow:
		return windowed(someWindow(r), api.AggSum+r.Intn(5))
	default:
		return node(kind)
	}
}

func someRecord(r *rand.Rand) api.Record {
	return record(r.Int63n(5)-2, r.Int63n(60)-30, int64(r.Uint64())>>r.Intn(64))
}

func somePanes(r *rand.Rand) []api.Pane {
	l := make([]api.Pane, r.Intn(8))
	for i := range l {
		from := r.Int63n(60) - 30
		l[i] = pane(r.Int63n(4)-1, from, from+1+r.Int63n(12), r.Int63n(20)-10)
	}
	return l
}

// plain: an operator that is a list of panes and looks at all of them, time by time.
type plain struct {
	n    api.Node
	l    []api.Pane
	mark int64
	late int
}

func newPlain(n api.Node) *plain { return &plain{n: n, mark: math.MinInt64} }

func (p *plain) isKeyed() bool { return p.n.Kind == api.NodeReduce || p.n.Kind == api.NodeWindow }

func (p *plain) record(r api.Record) []api.Record {
	switch p.n.Kind {
	case api.NodeMap:
		r.Val = expr.Eval(p.n.E, r)
	case api.NodeKey:
		r.Key = expr.Eval(p.n.E, r)
	case api.NodeFilter:
		if expr.Eval(p.n.E, r) == 0 {
			return nil
		}
	case api.NodeReduce:
		p.put(r, api.Span{From: math.MinInt64, To: 1<<41 + 1})
		return nil
	case api.NodeWindow:
		p.window(r)
		return nil
	}
	return []api.Record{r}
}

func (p *plain) window(r api.Record) {
	some, open := false, false
	for from := r.Time - 20; from <= r.Time; from++ {
		span := api.Span{From: from, To: from + p.n.Win.Size}
		if !p.begins(from, r.Time) || span.To <= r.Time {
			continue
		}
		some = true
		if span.To-1 > p.mark {
			open = true
			p.put(r, span)
		}
	}
	if some && !open {
		p.late++
	}
}

// begins: whether a span of the window begins there, that has the time.
func (p *plain) begins(from, time int64) bool {
	switch p.n.Win.Kind {
	case api.WinTumbling:
		return from%p.n.Win.Size == 0
	case api.WinSliding:
		return from%p.n.Win.Slide == 0
	}
	return from == time
}

func (p *plain) put(r api.Record, s api.Span) {
	p.l = append(p.l, api.Pane{Key: r.Key, Span: s, Acc: agg.All(p.n.Agg, []int64{r.Val})})
	p.tidy()
}

func (p *plain) load(l []api.Pane) {
	if p.isKeyed() {
		p.l = slices.Clone(l)
		p.tidy()
	}
}

func (p *plain) tidy() {
	for p.mergedTwo() {
	}
	slices.SortFunc(p.l, func(a, b api.Pane) int { return slices.Compare(numbers(a), numbers(b)) })
}

func (p *plain) mergedTwo() bool {
	for i, a := range p.l {
		for k, b := range p.l[:i] {
			if a.Key == b.Key && (a.Span == b.Span || p.n.Win.Kind == api.WinSession && a.Span.From < b.Span.To && b.Span.From < a.Span.To) {
				p.l[k] = pane(a.Key, min(a.Span.From, b.Span.From), max(a.Span.To, b.Span.To), agg.Merge(p.n.Agg, a.Acc, b.Acc))
				p.l = slices.Delete(p.l, i, i+1)
				return true
			}
		}
	}
	return false
}

func numbers(p api.Pane) []int64 { return []int64{p.Key, p.Span.From, p.Span.To, p.Acc} }

func (p *plain) rise(m int64) []api.Record {
	if !p.isKeyed() || m <= p.mark {
		return nil
	}
	p.mark = m
	var fired []api.Record
	var left []api.Pane
	for _, x := range p.l {
		switch {
		case p.n.Kind == api.NodeReduce && m == math.MaxInt64:
			fired = append(fired, record(x.Key, 1<<41, x.Acc))
		case p.n.Kind == api.NodeWindow && x.Span.To-1 <= m:
			fired = append(fired, record(x.Key, x.Span.To-1, x.Acc))
		default:
			left = append(left, x)
		}
	}
	p.l = left
	return fired
}

func someMark(r *rand.Rand, p *plain) int64 {
	switch r.Intn(12) {
	case 0:
		return math.MaxInt64 - r.Int63n(2)
	case 1:
		return p.mark
	}
	return max(p.mark, -30) - 2 + r.Int63n(12)
}

// TestPlain: any calls, in any order; panes are asked for only at times, as that must not alter anything.
func TestPlain(t *testing.T) {
	r := rand.New(rand.NewSource(13))
	behind := 0
	for range 12000 {
		n := someNode(r)
		o, p := ops.New(n), newPlain(n)
		asks := r.Intn(2) == 0
		for range r.Intn(40) {
			switch r.Intn(14) {
			case 0:
				l := somePanes(r)
				o.Load(l)
				p.load(l)
			case 1, 2:
				m := someMark(r, p)
				if got, want := o.Mark(m), p.rise(m); !slices.Equal(got, want) {
					t.Fatalf("P13.2: %v: Mark(%d) %v, wanted %v", n, m, got, want)
				}
			default:
				in := someRecord(r)
				if got, want := o.Record(in), p.record(in); !slices.Equal(got, want) {
					t.Fatalf("P13.1: %v: %v of %v, wanted %v", n, got, in, want)
				}
				if in.Time <= p.mark && len(p.l) > 0 {
					behind++
				}
			}
			if asks {
				holdTo(t, o, p)
			}
		}
		holdTo(t, o, p)
	}
	if behind < 1000 {
		t.Errorf("P13.1: only %d records came behind a mark", behind)
	}
}

func holdTo(t *testing.T, o *ops.Op, p *plain) {
	t.Helper()
	if got := o.Panes(); !slices.Equal(got, p.l) {
		t.Fatalf("P13.2: %v: panes %v, wanted %v", p.n, got, p.l)
	}
	if got := o.Late(); got != p.late {
		t.Fatalf("P13.1: %v: %d late, wanted %d", p.n, got, p.late)
	}
}

// TestGoesOn: one that had another's mark, and is loaded with its panes then, does what that one does.
func TestGoesOn(t *testing.T) {
	r := rand.New(rand.NewSource(131))
	for range 4000 {
		n := someNode(r)
		o, p := ops.New(n), newPlain(n)
		for range r.Intn(30) {
			if r.Intn(6) == 0 {
				m := someMark(r, p)
				o.Mark(m)
				p.rise(m)
			}
			o.Record(someRecord(r))
		}
		again := ops.New(n)
		same(t, "P13.2: a mark ahead of all", again.Mark(p.mark))
		again.Load(o.Panes())
		for range 20 {
			in, m := someRecord(r), someMark(r, p)
			same(t, "P13.1: gone on with", again.Record(in), o.Record(in)...)
			if r.Intn(5) == 0 {
				p.rise(m)
				same(t, "P13.2: gone on with", again.Mark(m), o.Mark(m)...)
			}
		}
		same(t, "P13.2: gone on with", again.Panes(), o.Panes()...)
	}
}

// TestAnyOrder: as long as no mark comes between, records may come in any order.
func TestAnyOrder(t *testing.T) {
	r := rand.New(rand.NewSource(132))
	for range 2000 {
		n := windowed(someWindow(r), api.AggSum+r.Intn(5))
		mark, end := r.Int63n(60)-30, r.Int63n(60)-30
		recs := make([]api.Record, r.Intn(24))
		for i := range recs {
			recs[i] = someRecord(r)
		}
		var first *ops.Op
		var told []api.Record
		for range 3 {
			o := ops.New(n)
			o.Mark(mark)
			goesIn(t, o, recs...)
			fired := o.Mark(end)
			if first == nil {
				first, told = o, fired
			}
			same(t, "P13.1: in another order", fired, told...)
			same(t, "P13.1: in another order", o.Panes(), first.Panes()...)
			isLate(t, "in another order", o, first.Late())
			r.Shuffle(len(recs), func(i, k int) { recs[i], recs[k] = recs[k], recs[i] })
		}
	}
}

// spoil: writes over a list and the room behind it.
func spoil[T any](l []T, x T) {
	l = l[:cap(l)]
	for i := range l {
		l[i] = x
	}
}

// TestNodeNotKept: a node's expression may be written over behind New, with all that hangs on it; its room isn't changed.
func TestNodeNotKept(t *testing.T) {
	for _, kind := range []int{api.NodeMap, api.NodeFilter, api.NodeKey} {
		inner := []api.Expr{val, key, c(77)}
		outer := []api.Expr{x(api.ExprSub, inner[:2]...), c(5), c(88)}
		o := ops.New(by(kind, x(api.ExprAdd, outer[:2]...)))
		r := record(3, 7, 4)
		want := o.Record(r)
		if inner[2].N != 77 || outer[2].N != 88 || outer[1].N != 5 || outer[0].Op != api.ExprSub {
			t.Error("DOC 3: what was handed in has changed")
		}
		spoil(inner, c(0))
		same(t, "DOC 3: what is within was kept", o.Record(r), want...)
		spoil(outer, c(0))
		same(t, "DOC 3: what was handed in was kept", o.Record(r), want...)
	}
}

// TestLeftAlone: what Load is handed stays and isn't kept, no answer is memory of the operator's or of another answer, and no operator's is another's.
func TestLeftAlone(t *testing.T) {
	r := rand.New(rand.NewSource(133))
	foreign, wrong := pane(99, 99, 100, 99), record(99, 99, 99)
	for range 2000 {
		n := someNode(r)
		o, p, other := ops.New(n), newPlain(n), ops.New(n)
		for range 6 {
			whole := append(somePanes(r), foreign, foreign)
			was := slices.Clone(whole)
			o.Load(whole[:len(whole)-2])
			p.load(was[:len(was)-2])
			if !slices.Equal(whole, was) {
				t.Fatalf("DOC 3: what was handed in is %v, was %v", whole, was)
			}
			spoil(whole, foreign)
			in, m := someRecord(r), someMark(r, p)
			p.record(in)
			spoil(o.Record(in), wrong)
			same(t, "DOC 3: answers apart", o.Record(in), p.record(in)...)
			spoil(o.Panes(), foreign)
			holdTo(t, o, p)
			p.rise(m)
			spoil(o.Mark(m), wrong)
			holdTo(t, o, p)
		}
		same(t, "DOC 8: another operator", other.Panes())
		isLate(t, "another operator", other, 0)
	}
}

// TestStrangeNodes: all nodes are taken, also those that no job may have.
func TestStrangeNodes(t *testing.T) {
	for _, kind := range []int{math.MinInt, -1, 0, 1, 2, 3, 4, 5, 6, 7, 8, 9, math.MaxInt} {
		for _, win := range []int{math.MinInt, -1, 0, 1, 2, 3, 4, math.MaxInt} {
			for _, size := range strange {
				for _, slide := range strange {
					w := api.Window{Kind: win, Size: size, Slide: slide}
					strangeNode(t, api.Node{Kind: kind, In: []int{-1, 99}, Par: -1, E: x(int(slide)), Agg: int(size), Win: w}, size, slide)
				}
			}
		}
	}
}

func strangeNode(t *testing.T, n api.Node, a, b int64) {
	o := ops.New(n)
	for _, m := range []int64{math.MinInt64, a, 0, b} {
		o.Mark(m)
		for _, time := range strange {
			if got := o.Record(record(1, time, b)); len(got) > 1 {
				t.Fatalf("P13.1: %v: %v", n, got)
			}
		}
		o.Load([]api.Pane{pane(1, a, b, a), pane(1, b, a, b), pane(a, a, a, a), pane(1, 0, 10, 5)})
		o.Record(record(1, a, b))
		o.Panes()
	}
	if o.Late() < 0 {
		t.Fatalf("P13.1: %v: %d late", n, o.Late())
	}
}

// TestRefused: of an expression that expr refuses 0 is told, also of one without an end; of a kind that is none nothing.
func TestRefused(t *testing.T) {
	endless, wide := x(api.ExprAdd, val, val), val
	endless.L[0] = endless
	for range 1000 {
		wide = x(api.ExprMul, wide, wide)
	}
	r := record(3, 4, 5)
	for _, e := range []api.Expr{{}, x(15), x(api.ExprAdd, val), {Op: api.ExprVal, N: 1}, endless, wide} {
		same(t, "P13.1: a map by what is refused", ops.New(by(api.NodeMap, e)).Record(r), record(3, 4, 0))
		same(t, "P13.1: a key by what is refused", ops.New(by(api.NodeKey, e)).Record(r), record(0, 4, 5))
		same(t, "P13.1: a filter by what is refused", ops.New(by(api.NodeFilter, e)).Record(r))
	}
	for _, kind := range []int{math.MinInt, -1, 0, 9, 1<<32 + 1, math.MaxInt} {
		o := ops.New(api.Node{Kind: kind, Agg: api.AggSum, Win: tumbling(10), E: val})
		o.Load([]api.Pane{pane(1, 0, 10, 5)})
		same(t, "P13.1: no kind", o.Record(r))
		same(t, "P13.2: no kind", o.Mark(api.MaxMark))
		same(t, "P13.2: no kind", o.Panes())
	}
	none := ops.New(windowed(api.Window{}, api.AggSum))
	goesIn(t, none, r)
	same(t, "P13.1: a window that is none has no span", none.Panes())
}

// TestLong: a record's way doesn't grow with the panes that are there, also if some of its spans are late.
func TestLong(t *testing.T) {
	const many = 1 << 15
	o := ops.New(windowed(sliding(20, 5), api.AggCount))
	o.Mark(9)
	for i := range int64(many) {
		goesIn(t, o, record(i, 7, 1), record(i%3, 7, 1), record(i, 1, 1))
	}
	// The spans of 7 that are open: {-5, 15}, {0, 20}, {5, 25}; those of 1: {-5, 15}, {0, 20}.
	if l := o.Mark(14); len(l) != many {
		t.Fatalf("P13.1: %d records, wanted %d", len(l), many)
	}
	l := o.Panes()
	if len(l) != 2*many || l[0] != pane(0, 0, 20, 2+many/3+1) || l[1] != pane(0, 5, 25, 1+many/3+1) {
		t.Fatalf("P13.1: %d panes, wanted %d: %v", len(l), 2*many, l[:2])
	}
	isLate(t, "many", o, 0)
	late := ops.New(windowed(tumbling(10), api.AggCount))
	late.Mark(api.MaxMark)
	for i := range int64(many) {
		goesIn(t, late, record(i, i, 1))
	}
	isLate(t, "all of many", late, many)
}

// TestKept: what is kept doesn't grow with records that come to panes that are there, also if some of their spans are late.
func TestKept(t *testing.T) {
	o := ops.New(windowed(sliding(10, 5), api.AggCount))
	o.Mark(9)
	goesIn(t, o, record(1, 7, 1))
	before := inUse()
	const many = 1 << 19
	for range many {
		o.Record(record(1, 7, 1))
	}
	if grown := inUse() - before; grown > 1<<22 {
		t.Errorf("LANGUAGE 8: %d bytes are kept of one pane", grown)
	}
	same(t, "P13.1: one pane", o.Panes(), pane(1, 5, 15, many+1))
}

func inUse() int64 {
	runtime.GC()
	var m runtime.MemStats
	runtime.ReadMemStats(&m)
	return int64(m.HeapAlloc)
}
