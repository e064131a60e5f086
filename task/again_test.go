package task_test

import (
	"math/rand"
	"slices"
	"testing"

	"leat/api"
	"leat/gate"
	"leat/ops"
	"leat/plan"
	"leat/task"
)

// told: a part that became whole.
type told struct {
	n uint64
	s api.Snap
}

// plain: a task that keeps its beginning and all that came since, and works all of it out anew for each answer.
type plain struct {
	j     api.Job
	p     api.Plan
	no    int
	items []api.Item
	begin api.Snap
	l     []func(l *living) // what came
	asked int               // how many parts were whole when Snap was asked
}

// living: a plain task on its way through what came.
type living struct {
	*plain
	offset int
	mark   int64
	most   uint64
	g      *gate.Gate
	o      *ops.Op
	begun  api.Snap
	whole  []told
	out    []api.Out // of the last thing that came, as all below
	recs   []api.Record
	ok     bool
	e      api.Errno
}

func newPlain(j api.Job, p api.Plan, no int, items []api.Item) *plain {
	l := &plain{j: j, p: p, no: no, items: items}
	if l.isSource() {
		l.begin.Mark = none
	}
	return l
}

func (p *plain) kind() int { return p.j.Nodes[p.p.Tasks[p.no].Node].Kind }

func (p *plain) isSource() bool { return p.kind() == api.NodeSource }

// now: how it is behind all that came.
func (p *plain) now() *living {
	l := &living{plain: p, offset: p.begin.Offset, mark: p.begin.Mark}
	to := plan.To(p.p, p.no)
	l.g, l.o = gate.New(len(to)), ops.New(p.j.Nodes[p.p.Tasks[p.no].Node])
	if !p.isSource() {
		l.g.Load(p.begin.Marks)
		l.o.Mark(l.g.Mark())
		l.o.Load(p.begin.Panes)
	}
	for _, does := range p.l {
		l.out, l.recs, l.ok, l.e = nil, nil, false, api.OK
		does(l)
	}
	return l
}

func (p *plain) comes(does func(l *living)) *living {
	p.l = append(p.l, does)
	return p.now()
}

func (l *living) all(f api.Frame) {
	l.out = append(l.out, along(f, plan.From(l.p, l.no)...)...)
}

func (l *living) tell(recs []api.Record) {
	if l.kind() == api.NodeSink {
		l.recs = append(l.recs, recs...)
		return
	}
	for _, r := range recs {
		l.out = append(l.out, along(api.Frame{Kind: api.FrameRecord, Rec: r}, plan.Outs(l.j, l.p, l.no, r.Key)...)...)
	}
}

func (l *living) read() {
	if !l.isSource() || l.offset == len(l.items) {
		return
	}
	it := l.items[l.offset]
	l.offset, l.ok = l.offset+1, true
	if it.Kind == api.ItemRecord && it.Rec.Time > l.mark {
		l.tell([]api.Record{it.Rec})
	}
	if it.Kind == api.ItemMark && it.Mark > l.mark {
		l.mark = it.Mark
		l.all(mark(it.Mark))
	}
}

func (l *living) trigger(n uint64, over bool) {
	if !l.isSource() || n <= l.most {
		return
	}
	l.most = n
	l.whole = append(l.whole, told{n, api.Snap{Task: l.no, Offset: l.offset, Mark: l.mark}})
	l.all(api.Frame{Kind: api.FrameBarrier, N: n, Over: over})
}

func (l *living) frame(ch int, f api.Frame) {
	to := plan.To(l.p, l.no)
	s, e := l.g.Take(slices.Index(to, ch), f)
	if l.isSource() || e != api.OK {
		l.e = api.ErrTaskChannel
		return
	}
	switch s.Kind {
	case api.StepRecord:
		l.tell(l.o.Record(s.Rec))
	case api.StepMark:
		l.tell(l.o.Mark(s.Mark))
		l.all(mark(s.Mark))
	case api.StepBarrier:
		l.begun = api.Snap{Task: l.no, Marks: l.g.Marks(), Panes: l.o.Panes()}
		l.all(api.Frame{Kind: api.FrameBarrier, N: s.N, Over: f.Over})
	}
	if s.Full != 0 {
		whole := l.begun
		for _, o := range l.g.Captured() {
			whole.Captured = append(whole.Captured, out(to[o.Channel], o.F))
		}
		l.whole = append(l.whole, told{s.Full, whole})
	}
}

func (p *plain) snap() (uint64, api.Snap, bool) {
	l := p.now()
	n := len(l.whole)
	if n == p.asked {
		return 0, api.Snap{}, false
	}
	p.asked = n
	return l.whole[n-1].n, l.whole[n-1].s, true
}

func (p *plain) isPart(s api.Snap) bool {
	to := plan.To(p.p, p.no)
	if p.isSource() {
		return s.Task == p.no && s.Offset >= 0 && s.Offset <= len(p.items) && len(s.Marks) == 0 && len(s.Panes) == 0 && len(s.Captured) == 0
	}
	for _, o := range s.Captured {
		if !slices.Contains(to, o.Channel) || o.F.Kind == api.FrameBarrier {
			return false
		}
	}
	return s.Task == p.no && s.Offset == 0 && s.Mark == 0 && len(s.Marks) == len(to)
}

func (p *plain) restore(s api.Snap) ([]api.Out, []api.Record, api.Errno) {
	if !p.isPart(s) {
		return nil, nil, api.ErrTaskSnap
	}
	p.begin, p.l, p.asked = s, nil, 0
	var outs []api.Out
	var recs []api.Record
	for _, o := range s.Captured {
		l := p.comes(func(l *living) { l.frame(o.Channel, o.F) })
		outs, recs = append(outs, l.out...), append(recs, l.recs...)
	}
	return outs, recs, api.OK
}

func someFrame(r *rand.Rand, last uint64) api.Frame {
	switch r.Intn(10) {
	case 0:
		return api.Frame{Kind: r.Intn(9) - 2, Rec: record(1, r.Int63n(40), 2), Mark: r.Int63n(40), N: uint64(r.Intn(4)), Over: r.Intn(2) == 0}
	case 1, 2, 3:
		return mark(r.Int63n(60) - 10)
	case 4, 5, 6:
		return api.Frame{Kind: api.FrameBarrier, N: last + uint64(r.Intn(9)/8), Over: r.Intn(2) == 0}
	}
	return frame(r.Int63n(9)-2, r.Int63n(60)-10, r.Int63n(9)-2)
}

// damaged: a part that mostly isn't one any more.
func damaged(r *rand.Rand, s api.Snap) api.Snap {
	switch r.Intn(9) {
	case 0:
		s.Task++
	case 1:
		s.Offset += []int{-1, 1, 1000}[r.Intn(3)]
	case 2:
		s.Mark++
	case 3:
		s.Marks = append(slices.Clone(s.Marks), 3)
	case 4:
		s.Marks = s.Marks[:len(s.Marks)-min(1, len(s.Marks))]
	case 5:
		s.Panes = append(slices.Clone(s.Panes), pane(1, 10, 20, 3))
	case 6:
		s.Captured = append(slices.Clone(s.Captured), out(r.Intn(20)-2, frame(1, 2, 3)))
	case 7:
		s.Captured = append(slices.Clone(s.Captured), out(r.Intn(20)-2, aligned(3)))
	}
	return s
}

// pair: a task and a plain one of which the same is asked.
type pair struct {
	t     *testing.T
	r     *rand.Rand
	k     *task.Task
	p     *plain
	last  uint64 // the greatest number of a barrier, or near it
	parts []api.Snap
	seen  map[string]int
}

func (a *pair) step() {
	switch a.r.Intn(20) {
	case 0:
		a.restore()
	case 1, 2, 3:
		a.snap()
	case 4, 5:
		want := a.p.comes((*living).read)
		if got, ok := a.k.Read(); ok != want.ok || !slices.Equal(got, want.out) {
			a.t.Fatalf("P16.1: Read: %v, %v, wanted %v, %v", got, ok, want.out, want.ok)
		}
	case 6:
		n, over := a.last+uint64(a.r.Intn(3)), a.r.Intn(2) == 0
		want := a.p.comes(func(l *living) { l.trigger(n, over) })
		if got := a.k.Trigger(n, over); !slices.Equal(got, want.out) {
			a.t.Fatalf("P16.1: Trigger(%d): %v, wanted %v", n, got, want.out)
		}
		if a.p.isSource() {
			a.last = max(a.last, n)
		}
	default:
		a.frame()
	}
}

func (a *pair) frame() {
	ch, f := a.r.Intn(len(a.p.p.Channels)+4)-2, someFrame(a.r, a.last)
	if to := plan.To(a.p.p, a.p.no); len(to) > 0 && a.r.Intn(12) > 0 {
		ch = to[a.r.Intn(len(to))]
	}
	want := a.p.comes(func(l *living) { l.frame(ch, f) })
	got, recs, e := a.k.Frame(ch, f)
	if e != want.e || !slices.Equal(got, want.out) || !slices.Equal(recs, want.recs) {
		a.t.Fatalf("P16.2: Frame(%d, %+v): %v, %v, %v, wanted %v, %v, %v", ch, f, got, recs, e, want.out, want.recs, want.e)
	}
	a.last = max(a.last, want.g.Last())
}

func (a *pair) snap() {
	wantN, want, wantOK := a.p.snap()
	n, s, ok := a.k.Snap()
	if n != wantN || ok != wantOK || !sameSnap(s, want) {
		a.t.Fatalf("P16.3: Snap: %d, %+v, %v, wanted %d, %+v, %v", n, s, ok, wantN, want, wantOK)
	}
	if !ok {
		return
	}
	a.parts = append(a.parts, s)
	a.seen["whole"]++
	if len(s.Captured) > 0 {
		a.seen["captured"]++
	}
}

func (a *pair) restore() {
	s := api.Snap{Task: a.p.no, Mark: none}
	if len(a.parts) > 0 {
		s = a.parts[a.r.Intn(len(a.parts))]
	}
	if a.r.Intn(3) == 0 {
		s = damaged(a.r, s)
	}
	want, wantRecs, wantE := a.p.restore(s)
	got, recs, e := a.k.Restore(s)
	if e != wantE || !slices.Equal(got, want) || !slices.Equal(recs, wantRecs) {
		a.t.Fatalf("P16.4: Restore(%+v): %v, %v, %v, wanted %v, %v, %v", s, got, recs, e, want, wantRecs, wantE)
	}
	if e != api.OK {
		a.seen["refused"]++
		return
	}
	a.seen["restored"]++
	a.last = 0
}

// look: all that it tells of itself.
func (a *pair) look() {
	l := a.p.now()
	m := l.mark
	if !a.p.isSource() {
		m = l.g.Mark()
	}
	if a.k.Mark() != m || a.k.Offset() != l.offset || a.k.Done() != (m == end) {
		a.t.Fatalf("P16.4: Mark %d, Offset %d, Done %v, wanted %d, %d", a.k.Mark(), a.k.Offset(), a.k.Done(), m, l.offset)
	}
	to := plan.To(a.p.p, a.p.no)
	for ch := -1; ch <= len(a.p.p.Channels); ch++ {
		if at := slices.Index(to, ch); a.k.Blocked(ch) != (at >= 0 && l.g.Blocked(at)) {
			a.t.Fatalf("P16.2: Blocked(%d): %v", ch, a.k.Blocked(ch))
		}
	}
}

// TestPlain: any calls, in any order, of any task, against the plain one.
func TestPlain(t *testing.T) {
	seen := map[string]int{}
	for seed := range int64(2000) {
		r := rand.New(rand.NewSource(seed))
		j := someJob(r)
		p := plan.Make(j)
		no := r.Intn(len(p.Tasks))
		var items []api.Item
		if j.Nodes[p.Tasks[no].Node].Kind == api.NodeSource {
			items = someItems(r)
		}
		a := &pair{t: t, r: r, k: task.New(j, p, no, items), p: newPlain(j, p, no, items), seen: seen}
		for range 100 {
			a.step()
			a.look()
		}
	}
	for what, least := range map[string]int{"whole": 2000, "captured": 100, "restored": 2000, "refused": 500} {
		if seen[what] < least {
			t.Errorf("P16: only %d were %s", seen[what], what)
		}
	}
}

// TestAlongOuts: each record goes along plan's channels of its own key, whatever key it is, from every task.
func TestAlongOuts(t *testing.T) {
	r := rand.New(rand.NewSource(161))
	for range 200 {
		j := someJob(r)
		p := plan.Make(j)
		for no, at := range p.Tasks {
			n := j.Nodes[at.Node]
			for range 10 {
				k := int64(r.Uint64()) >> r.Intn(64)
				want := along(frame(k, 5, 6), plan.Outs(j, p, no, k)...)
				switch n.Kind {
				case api.NodeSource:
					reads(t, "P16.1: along Outs", task.New(j, p, no, []api.Item{rec(k, 5, 6)}), want...)
				case api.NodeUnion:
					gives(t, "P16.2: along Outs", task.New(j, p, no, nil), plan.To(p, no)[0], frame(k, 5, 6), want...)
				}
			}
		}
	}
}
