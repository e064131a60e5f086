package state_test

import (
	"bytes"
	"cmp"
	"math"
	"math/rand"
	"slices"
	"testing"

	"leat/agg"
	"leat/api"
	"leat/plan"
	"leat/state"
	"leat/window"
)

// strange: numbers that fields may have, though no job has them.
var strange = []int64{math.MinInt64, math.MinInt64 + 1, -1 << 50, -10, -1, 0, 1, 2, 10, 64, 1 << 36, 1 << 41, 1<<41 + 1, 1 << 50, math.MaxInt64 - 1, math.MaxInt64}

func someWindow(r *rand.Rand) api.Window {
	size := 1 + r.Int63n(12)
	switch r.Intn(4) {
	case 0:
		return tumbling(size)
	case 1:
		return session(size)
	case 2:
		return reduce
	}
	return sliding(size, 1+r.Int63n(15))
}

func someRecord(r *rand.Rand) api.Record {
	return record(r.Int63n(6)-2, r.Int63n(60)-30, int64(r.Uint64())>>r.Intn(64))
}

func someRecords(r *rand.Rand) []api.Record {
	l := make([]api.Record, r.Intn(24))
	for i := range l {
		l[i] = someRecord(r)
	}
	return l
}

// somePanes: such as a state may have, and also others: that overlap, that are there twice, that have no time, in any order.
func somePanes(r *rand.Rand, size int) []api.Pane {
	l := make([]api.Pane, size)
	for i := range l {
		from := r.Int63n(60) - 30
		l[i] = pane(r.Int63n(4)-1, from, from+r.Int63n(9)-1, r.Int63n(20)-10)
		if i > 0 && r.Intn(8) == 0 {
			l[i] = l[r.Intn(i)]
			l[i].Acc += r.Int63n(2)
		}
	}
	return l
}

// plain: a state that is a list; what is to become one does so by a look at every two.
type plain struct {
	w    api.Window
	aggr int
	l    []api.Pane
}

func (p *plain) put(r api.Record) {
	spans := []api.Span{{From: math.MinInt64, To: 1<<41 + 1}}
	if p.w.Kind != 0 {
		spans = window.Spans(p.w, r.Time)
	}
	for _, s := range spans {
		p.l = append(p.l, api.Pane{Key: r.Key, Span: s, Acc: agg.All(p.aggr, []int64{r.Val})})
	}
	p.tidy()
}

func (p *plain) load(l []api.Pane) {
	p.l = slices.Clone(l)
	p.tidy()
}

func (p *plain) loaded(l []api.Pane) []api.Pane {
	p.load(l)
	return p.l
}

func (p *plain) tidy() {
	for p.mergedTwo() {
	}
	slices.SortFunc(p.l, byNumbers)
}

func (p *plain) mergedTwo() bool {
	for i, a := range p.l {
		for k, b := range p.l[:i] {
			if a.Key == b.Key && (a.Span == b.Span || p.w.Kind == api.WinSession && both(a.Span, b.Span)) {
				p.l[k] = pane(a.Key, min(a.Span.From, b.Span.From), max(a.Span.To, b.Span.To), agg.Merge(p.aggr, a.Acc, b.Acc))
				p.l = slices.Delete(p.l, i, i+1)
				return true
			}
		}
	}
	return false
}

// both: whether one of the times of a span is in another one, asked one by one.
func both(a, b api.Span) bool {
	for t := a.From; t < a.To; t++ {
		if b.From <= t && t < b.To {
			return true
		}
	}
	return false
}

func byNumbers(a, b api.Pane) int { return slices.Compare(numbers(a), numbers(b)) }

func numbers(p api.Pane) []int64 { return []int64{p.Key, p.Span.From, p.Span.To, p.Acc} }

func (p *plain) fire(mark int64) []api.Record {
	var fired []api.Record
	var left []api.Pane
	for _, x := range p.l {
		switch {
		case p.w.Kind == 0 && mark == math.MaxInt64:
			fired = append(fired, record(x.Key, 1<<41, x.Acc))
		case p.w.Kind != 0 && x.Span.To-1 <= mark:
			fired = append(fired, record(x.Key, x.Span.To-1, x.Acc))
		default:
			left = append(left, x)
		}
	}
	p.l = left
	return fired
}

func (p *plain) next() (int64, bool) {
	if len(p.l) == 0 {
		return 0, false
	}
	return slices.MinFunc(p.l, func(a, b api.Pane) int { return cmp.Compare(a.Span.To, b.Span.To) }).Span.To - 1, true
}

func (p *plain) group(g int) []api.Pane {
	return slices.DeleteFunc(slices.Clone(p.l), func(x api.Pane) bool { return plan.Group(x.Key) != g })
}

// holdTo: whether a state tells what a plain one does.
func holdTo(t *testing.T, s *state.State, p *plain) {
	t.Helper()
	if got := s.Panes(); !slices.Equal(got, p.l) || s.Len() != len(p.l) {
		t.Fatalf("P12.1: %v, %d: panes %v, %d of them, wanted %v", p.w, p.aggr, got, s.Len(), p.l)
	}
	n, ok := s.Next()
	if least, there := p.next(); n != least || ok != there {
		t.Fatalf("P12.1: %v: Next %d, %v, wanted %d, %v", p.l, n, ok, least, there)
	}
	for g := -1; g <= api.Groups; g++ {
		if got := s.Group(g); !slices.Equal(got, p.group(g)) {
			t.Fatalf("P12.1: %v: Group(%d) %v", p.l, g, got)
		}
	}
	if b := s.Bytes(); !bytes.Equal(b, spelled(p.l...)) {
		t.Fatalf("P12.2: %v: bytes %v", p.l, b)
	}
}

func TestPlain(t *testing.T) {
	r := rand.New(rand.NewSource(12))
	for range 3000 {
		w, aggr := someWindow(r), 1+r.Intn(5)
		s, p := state.New(w, aggr), &plain{w: w, aggr: aggr}
		for range r.Intn(30) {
			switch r.Intn(10) {
			case 0:
				l := somePanes(r, r.Intn(12))
				s.Load(l)
				p.load(l)
			case 1, 2:
				mark := r.Int63n(60) - 30
				if r.Intn(4) == 0 {
					mark = api.MaxMark - r.Int63n(2)
				}
				if got, want := s.Fire(mark), p.fire(mark); !slices.Equal(got, want) {
					t.Fatalf("P12.1: %v: Fire(%d) %v, wanted %v", w, mark, got, want)
				}
			case 3:
				o, e := state.Open(w, aggr, s.Bytes())
				if e != api.OK {
					t.Fatalf("P12.2: Open of %v: %v", p.l, e)
				}
				s = o
			default:
				x := someRecord(r)
				s.Put(x)
				p.put(x)
			}
			holdTo(t, s, p)
		}
	}
}

// TestAnyOrder: the bytes are the same in whatever order records come, and however often they are put.
func TestAnyOrder(t *testing.T) {
	r := rand.New(rand.NewSource(123))
	for range 2000 {
		w, aggr, recs := someWindow(r), 1+r.Intn(5), someRecords(r)
		want := filled(w, aggr, recs...).Bytes()
		for range 4 {
			r.Shuffle(len(recs), func(i, k int) { recs[i], recs[k] = recs[k], recs[i] })
			if got := filled(w, aggr, recs...).Bytes(); !bytes.Equal(got, want) {
				t.Fatalf("P12.3: %v, %d, of %v: %v, wanted %v", w, aggr, recs, got, want)
			}
		}
	}
}

// parts: states of a parallelism that do together what one does.
type parts []*state.State

func split(w api.Window, aggr int, panes []api.Pane, par int) parts {
	var p parts
	for _, l := range state.Split(panes, par) {
		p = append(p, loaded(w, aggr, l...))
	}
	return p
}

func (p parts) put(r api.Record) { p[plan.Part(plan.Group(r.Key), len(p))].Put(r) }

func (p parts) fire(mark int64) []api.Record {
	var l []api.Record
	for _, s := range p {
		l = append(l, s.Fire(mark)...)
	}
	return l
}

// panes: of all parts, and whether each lies with the part whose key group it is.
func (p parts) panes() ([]api.Pane, bool) {
	var all []api.Pane
	ok := true
	for i, s := range p {
		for _, x := range s.Panes() {
			ok = ok && plan.Part(plan.Group(x.Key), len(p)) == i
			all = append(all, x)
		}
	}
	slices.SortFunc(all, byNumbers)
	return all, ok
}

func bag(l []api.Record) []api.Record {
	slices.SortFunc(l, func(a, b api.Record) int {
		return cmp.Or(cmp.Compare(a.Key, b.Key), cmp.Compare(a.Time, b.Time), cmp.Compare(a.Val, b.Val))
	})
	return l
}

// TestParts: through parallelisms that change, parts do together what one state does.
func TestParts(t *testing.T) {
	r := rand.New(rand.NewSource(124))
	for range 1000 {
		w, aggr := someWindow(r), 1+r.Intn(5)
		one, apart := state.New(w, aggr), split(w, aggr, nil, 1+r.Intn(4))
		for range 5 {
			for _, x := range someRecords(r) {
				one.Put(x)
				apart.put(x)
			}
			mark := r.Int63n(80) - 40
			if r.Intn(4) == 0 {
				mark = api.MaxMark
			}
			if got, want := bag(apart.fire(mark)), bag(one.Fire(mark)); !slices.Equal(got, want) {
				t.Fatalf("P12.3: %v, Fire(%d): %v, wanted %v", w, mark, got, want)
			}
			all, ok := apart.panes()
			if !ok || !slices.Equal(all, one.Panes()) {
				t.Fatalf("P12.3: %v: parts %v, wanted %v", w, all, one.Panes())
			}
			apart = split(w, aggr, all, 1+r.Intn(4))
		}
	}
}

// TestOpenPlain: of bytes with some faults: Open takes just what a state writes.
func TestOpenPlain(t *testing.T) {
	r := rand.New(rand.NewSource(122))
	taken := 0
	for range 20000 {
		w, aggr := someWindow(r), 1+r.Intn(5)
		p := &plain{w: w, aggr: aggr}
		p.load(somePanes(r, r.Intn(5)))
		l := slices.Clone(p.l)
		for range r.Intn(2) {
			l = append(l, somePanes(r, 1)...)
			slices.SortFunc(l, byNumbers)
		}
		if len(l) > 1 && r.Intn(4) == 0 {
			i, k := r.Intn(len(l)), r.Intn(len(l))
			l[i], l[k] = l[k], l[i]
		}
		p.load(l)
		b, want := spelled(l...), api.OK
		if r.Intn(8) == 0 {
			b[r.Intn(4)] ^= 1 << r.Intn(8)
			want = api.ErrStateForm
		}
		if !slices.Equal(p.l, l) {
			want = api.ErrStateForm
		}
		s, e := state.Open(w, aggr, b)
		if e != want {
			t.Fatalf("P12.2: Open of %v with %v: %v, wanted %v", l, w, e, want)
		}
		if e == api.OK {
			taken++
			holdTo(t, s, p)
		}
	}
	if taken < 1000 {
		t.Errorf("P12.2: only %d were taken", taken)
	}
}

// FuzzOpen: what Open takes is written again as it was.
func FuzzOpen(f *testing.F) {
	f.Add(3, spelled(pane(1, 0, 10, 5), pane(1, 10, 20, 4)))
	f.Fuzz(func(t *testing.T, kind int, b []byte) {
		s, e := state.Open(api.Window{Kind: kind, Size: 5, Slide: 2}, api.AggSum, b)
		if e != api.OK && (e != api.ErrStateForm || s != nil) {
			t.Fatalf("P12.2: %v, %v", s, e)
		}
		if e == api.OK && (!bytes.Equal(s.Bytes(), b) || len(b) != 4+32*s.Len()) {
			t.Fatalf("P12.2: %v, wanted %v", s.Bytes(), b)
		}
	})
}

// TestLeftAlone: what is handed in stays, with the room behind it, and isn't kept; no answer is memory of the state's or of another answer.
func TestLeftAlone(t *testing.T) {
	r := rand.New(rand.NewSource(30))
	for range 1000 {
		w, aggr := someWindow(r), 1+r.Intn(5)
		whole := somePanes(r, 16)
		was := slices.Clone(whole)
		l := whole[:r.Intn(len(whole)+1)]
		s := state.New(w, aggr)
		s.Load(l)
		split := state.Split(l, 1+r.Intn(4))
		if !slices.Equal(whole, was) {
			t.Fatalf("P12.1: what was handed in is %v, was %v", whole, was)
		}
		spoil(whole, pane(98, 98, 98, 98))
		want := spelled((&plain{w: w, aggr: aggr}).loaded(was[:len(l)])...)
		alone(t, s, want)
		room := append(slices.Clone(want), 1, 2, 3)
		o, e := state.Open(w, aggr, room[:len(want)])
		if e != api.OK || !bytes.Equal(room, append(slices.Clone(want), 1, 2, 3)) {
			t.Fatalf("P12.2: Open, %v: what was handed in is %v, was %v", e, room, want)
		}
		spoil(room, 98)
		alone(t, o, want)
		for i := range split {
			rest := slices.Concat(split[i+1:]...)
			spoil(split[i], pane(99, 99, 99, 99))
			if !slices.Equal(slices.Concat(split[i+1:]...), rest) || slices.Contains(whole, pane(99, 99, 99, 99)) {
				t.Fatalf("P12.2: a part that was written over altered others")
			}
		}
	}
}

// alone: whether a state keeps to its bytes, though its answers are written over.
func alone(t *testing.T, s *state.State, want []byte) {
	t.Helper()
	spoil(s.Panes(), pane(99, 99, 99, 99))
	for g := range api.Groups {
		spoil(s.Group(g), pane(99, 99, 99, 99))
	}
	spoil(s.Bytes(), 99)
	if got := s.Bytes(); !bytes.Equal(got, want) {
		t.Fatalf("P12.2: %v, wanted %v", got, want)
	}
}

// spoil: writes over a list and the room behind it.
func spoil[T any](l []T, x T) {
	l = l[:cap(l)]
	for i := range l {
		l[i] = x
	}
}

// TestStrange: all arguments are taken, whatever the window, and what is written is read back.
func TestStrange(t *testing.T) {
	for _, kind := range []int{math.MinInt, -1, 0, api.WinTumbling, api.WinSliding, api.WinSession, 4, math.MaxInt} {
		for _, size := range strange {
			for _, slide := range strange {
				strangeState(t, api.Window{Kind: kind, Size: size, Slide: slide}, size, slide)
			}
		}
	}
}

func strangeState(t *testing.T, w api.Window, a, b int64) {
	for _, aggr := range []int{math.MinInt, -1, 0, api.AggSum, api.AggMin, 6, math.MaxInt} {
		s := loaded(w, aggr, pane(1, a, b, a), pane(1, b, a, b), pane(a, a, a, a), pane(1, 0, 10, 5))
		for _, time := range strange {
			s.Put(record(1, time, b))
			s.Put(record(1, time, a))
		}
		s.Next()
		s.Fire(a)
		state.Split(s.Panes(), int(a))
		written := s.Bytes()
		o, e := state.Open(w, aggr, written)
		if e != api.OK || !bytes.Equal(o.Bytes(), written) || s.Len() != len(s.Panes()) {
			t.Fatalf("P12.2: %v, %d: %v of %v", w, aggr, e, s.Panes())
		}
	}
}

// TestLong: a record's way doesn't grow with the panes that are there, of whatever keys.
func TestLong(t *testing.T) {
	const many = 1 << 16
	for _, w := range []api.Window{tumbling(2), session(2)} {
		s := state.New(w, api.AggCount)
		for i := range int64(many) {
			s.Put(record(i%3, i*2, 1))
			s.Put(record(i, -2, 1))
		}
		if s.Len() != 2*many {
			t.Fatalf("P12.1: %d panes, wanted %d", s.Len(), 2*many)
		}
		isNext(t, "P12.1: many", s, -1, true)
		if l := s.Fire(-1); len(l) != many || s.Len() != many {
			t.Fatalf("P12.1: %d records, %d panes, wanted %d of both", len(l), s.Len(), many)
		}
		if _, e := state.Open(w, api.AggCount, s.Bytes()); e != api.OK {
			t.Fatalf("P12.2: Open of many: %v", e)
		}
		back := s.Panes()
		slices.Reverse(back)
		s.Load(back)
		if l := s.Fire(api.MaxMark); len(l) != many || s.Len() != 0 {
			t.Fatalf("P12.1: %d records, %d panes, wanted %d and none", len(l), s.Len(), many)
		}
	}
	row := state.New(session(3), api.AggSum)
	for i := range int64(many) {
		row.Put(record(1, i*2, 1))
	}
	same(t, "P12.1: a long session", row.Panes(), pane(1, 0, many*2+1, many))
}
