package gate_test

import (
	"math"
	"math/rand"
	"runtime"
	"slices"
	"testing"

	"leat/api"
	"leat/gate"
)

// taken: a frame that a plain gate has taken, since it was loaded.
type taken struct {
	ch int
	f  api.Frame
}

// plain: a gate that keeps all frames since its last Load, and works out of them anew whatever is asked for.
type plain struct {
	channels int
	marks    []int64
	last     uint64 // ahead of the Load
	l        []taken
}

func newPlain(channels int) *plain {
	p := &plain{channels: min(max(channels, 1), 64)}
	p.load(nil)
	return p
}

func (p *plain) load(marks []int64) {
	p.last = p.greatest(len(p.l))
	p.marks, p.l = nil, nil
	for ch := range p.channels {
		m := int64(math.MinInt64)
		if ch < len(marks) {
			m = marks[ch]
		}
		p.marks = append(p.marks, m)
	}
}

func (p *plain) mark(ch, upTo int) int64 {
	m := p.marks[ch]
	for _, x := range p.l[:upTo] {
		if x.ch == ch && x.f.Kind == api.FrameMark {
			m = max(m, x.f.Mark)
		}
	}
	return m
}

func (p *plain) allMarks(upTo int) []int64 {
	var l []int64
	for ch := range p.channels {
		l = append(l, p.mark(ch, upTo))
	}
	return l
}

func (p *plain) greatest(upTo int) uint64 {
	n := p.last
	for _, x := range p.l[:upTo] {
		if x.f.Kind == api.FrameBarrier {
			n = max(n, x.f.N)
		}
	}
	return n
}

// first: where the newest checkpoint began; -1, if none did since the Load.
func (p *plain) first(upTo int) int {
	n := p.greatest(upTo)
	return slices.IndexFunc(p.l[:upTo], func(x taken) bool { return n > p.last && x.f.Kind == api.FrameBarrier && x.f.N == n })
}

// barrierOf: where the newest checkpoint's barrier came on a channel; -1, if it didn't.
func (p *plain) barrierOf(ch, upTo int) int {
	n := p.greatest(upTo)
	return slices.IndexFunc(p.l[:upTo], func(x taken) bool {
		return n > p.last && x.ch == ch && x.f.Kind == api.FrameBarrier && x.f.N == n
	})
}

func (p *plain) missing(upTo int) int {
	n := 0
	for ch := range p.channels {
		if p.barrierOf(ch, upTo) < 0 {
			n++
		}
	}
	return n
}

func (p *plain) under(upTo int) uint64 {
	if p.first(upTo) < 0 || p.missing(upTo) == 0 {
		return 0
	}
	return p.greatest(upTo)
}

func (p *plain) blocked(ch, upTo int) bool {
	return p.under(upTo) != 0 && !p.l[p.first(upTo)].f.Over && p.barrierOf(ch, upTo) >= 0
}

func (p *plain) captured() []api.Out {
	at := p.first(len(p.l))
	if at < 0 || !p.l[at].f.Over {
		return nil
	}
	var l []api.Out
	for i := at; i < len(p.l); i++ {
		x := p.l[i]
		behind := p.barrierOf(x.ch, i+1) >= 0 || p.missing(i) == 0
		if (x.f.Kind == api.FrameRecord || x.f.Kind == api.FrameMark) && !behind {
			l = append(l, api.Out{Channel: x.ch, F: x.f})
		}
	}
	return l
}

func (p *plain) take(ch int, f api.Frame) (api.Step, api.Errno) {
	now := len(p.l)
	if ch < 0 || ch >= p.channels || p.blocked(ch, now) {
		return api.Step{}, api.ErrGateChannel
	}
	p.l = append(p.l, taken{ch, f})
	switch f.Kind {
	case api.FrameRecord:
		return api.Step{Kind: api.StepRecord, Rec: f.Rec}, api.OK
	case api.FrameMark:
		if least := slices.Min(p.allMarks(now + 1)); least != slices.Min(p.allMarks(now)) {
			return api.Step{Kind: api.StepMark, Mark: least}, api.OK
		}
	case api.FrameBarrier:
		return p.told(now), api.OK
	}
	return api.Step{}, api.OK
}

// told: what the barrier tells that came as the last one, at that place.
func (p *plain) told(now int) api.Step {
	x := p.l[now]
	var s api.Step
	at := p.first(now + 1)
	if at < 0 || x.f.N != p.greatest(now+1) || p.barrierOf(x.ch, now+1) != now {
		return s
	}
	whole := p.missing(now+1) == 0
	if p.l[at].f.Over && at == now || !p.l[at].f.Over && whole {
		s.Kind, s.N = api.StepBarrier, x.f.N
	}
	if whole {
		s.Full = x.f.N
	}
	return s
}

func (p *plain) look() looked {
	now := len(p.l)
	l := looked{under: p.under(now), last: p.greatest(now), marks: p.allMarks(now), captured: p.captured()}
	l.mark = slices.Min(l.marks)
	for ch := range p.channels {
		l.blocked = append(l.blocked, p.blocked(ch, now))
	}
	return l
}

func someFrame(r *rand.Rand, last uint64) api.Frame {
	f := api.Frame{Kind: r.Intn(4), Rec: api.Record{Key: r.Int63()}, Mark: r.Int63n(20), N: last + uint64(r.Intn(3)), Over: r.Intn(2) == 0}
	switch r.Intn(30) {
	case 0:
		f.N = uint64(r.Intn(5))
	case 1:
		f.Mark = []int64{math.MinInt64, math.MinInt64 + 1, -1, math.MaxInt64}[r.Intn(4)]
	case 2:
		f.Kind = r.Intn(9) - 2
	}
	if f.N > last && r.Intn(2) == 0 {
		f.N = last
	}
	return f
}

func TestRandomCalls(t *testing.T) {
	whole, cut := 0, 0
	for seed := range int64(1500) {
		r := rand.New(rand.NewSource(seed))
		channels := []int{-1, 1, 2, 3, 4, 5}[r.Intn(6)]
		g, p := gate.New(channels), newPlain(channels)
		for range 60 {
			if r.Intn(40) == 0 {
				marks := make([]int64, r.Intn(7))
				for i := range marks {
					marks[i] = r.Int63n(20)
				}
				g.Load(marks)
				p.load(marks)
			}
			ch, f := r.Intn(p.channels+2)-1, someFrame(r, g.Last())
			under := g.Under()
			want, wantE := p.take(ch, f)
			if s, e := g.Take(ch, f); s != want || e != wantE {
				t.Fatalf("P15.1: seed %d: Take(%d, %+v): %+v, %v, wanted %+v, %v", seed, ch, f, s, e, want, wantE)
			}
			p.look().same(t, "P15.2", g)
			if want.Full != 0 {
				whole++
			} else if under != 0 && g.Under() > under {
				cut++
			}
		}
		if t.Failed() {
			t.Fatalf("seed %d", seed)
		}
	}
	if whole < 1000 || cut < 1000 {
		t.Errorf("P15.1: only %d were whole, %d given up", whole, cut)
	}
}

// life: what a task saw of a gate whose channels hand over their frames in order, and wait while they are blocked.
type life struct {
	t      *testing.T
	g      *gate.Gate
	queues [][]api.Frame
	gone   []int // how many frames of each channel the gate has taken
	over   map[uint64]bool
	began  map[uint64]cut // at StepBarrier
	whole  map[bool]int   // how many were, of each kind
}

// cut: how far each channel was, and the marks, when the state was kept.
type cut struct {
	gone  []int
	marks []int64
}

func someLife(t *testing.T, r *rand.Rand) *life {
	channels := 1 + r.Intn(4)
	l := &life{t: t, g: gate.New(channels), gone: make([]int, channels), over: map[uint64]bool{}, began: map[uint64]cut{}, whole: map[bool]int{}}
	for n := range uint64(8) {
		l.over[n+1] = r.Intn(2) == 0
	}
	for range channels {
		var q []api.Frame
		for n := range uint64(8) {
			for range r.Intn(6) {
				q = append(q, []api.Frame{record(r.Int63n(99)), mark(r.Int63n(99))}[r.Intn(2)])
			}
			if r.Intn(12) > 0 { // some barriers were lost on their way
				q = append(q, api.Frame{Kind: api.FrameBarrier, N: n + 1, Over: l.over[n+1]})
			}
		}
		l.queues = append(l.queues, q)
	}
	return l
}

// step: a channel hands over its next frame, if it isn't blocked.
func (l *life) step(ch int) {
	if l.g.Blocked(ch) || l.gone[ch] == len(l.queues[ch]) {
		return
	}
	f := l.queues[ch][l.gone[ch]]
	l.gone[ch]++
	s, e := l.g.Take(ch, f)
	if e != api.OK {
		l.t.Fatalf("P15.1: Take(%d, %+v): %v", ch, f, e)
	}
	if s.Kind == api.StepBarrier {
		l.began[s.N] = cut{slices.Clone(l.gone), l.g.Marks()}
	}
	if s.Full != 0 {
		l.check(s.Full)
	}
}

// check: of a checkpoint that is whole: what was told ahead of StepBarrier, and what was captured.
func (l *life) check(n uint64) {
	l.whole[l.over[n]]++
	c, ok := l.began[n]
	if !ok {
		l.t.Fatalf("P15.3: %d is full ahead of its StepBarrier", n)
	}
	captured := l.g.Captured()
	for ch, q := range l.queues {
		at := slices.IndexFunc(q, func(f api.Frame) bool { return f.Kind == api.FrameBarrier && f.N == n })
		if at < 0 || at >= l.gone[ch] {
			l.t.Fatalf("P15.3: %d is full without the barrier of %d", n, ch)
		}
		if !l.over[n] && c.gone[ch] != at+1 {
			l.t.Fatalf("P15.3: aligned %d: %d frames of %d were told, its barrier being at %d", n, c.gone[ch], ch, at)
		}
		var want []api.Frame
		if c.gone[ch] <= at {
			want = noBarriers(q[c.gone[ch]:at])
		}
		if got := ofChannel(captured, ch); !slices.Equal(got, want) {
			l.t.Fatalf("P15.3: unaligned %d: captured of %d %v, wanted %v", n, ch, got, want)
		}
	}
	l.restore(n, c.marks, captured)
}

// restore: a gate that is loaded with the marks of StepBarrier and takes what was captured has each channel's marks of its barrier.
func (l *life) restore(n uint64, marks []int64, captured []api.Out) {
	g := gate.New(len(l.queues))
	g.Load(marks)
	for _, o := range captured {
		s, e := g.Take(o.Channel, o.F)
		if e != api.OK || s.Kind == api.StepBarrier || s.Full != 0 {
			l.t.Fatalf("P15.3: Take(%d, %+v) of what was captured: %+v, %v", o.Channel, o.F, s, e)
		}
	}
	for ch, q := range l.queues {
		want := int64(math.MinInt64)
		for _, f := range q {
			if f.Kind == api.FrameBarrier && f.N == n {
				break
			}
			if f.Kind == api.FrameMark {
				want = max(want, f.Mark)
			}
		}
		if got := g.Marks()[ch]; got != want {
			l.t.Fatalf("P15.3: %d: %d's mark is %d when restored, wanted %d", n, ch, got, want)
		}
	}
}

func noBarriers(l []api.Frame) []api.Frame {
	return slices.DeleteFunc(slices.Clone(l), func(f api.Frame) bool { return f.Kind == api.FrameBarrier })
}

func ofChannel(l []api.Out, ch int) []api.Frame {
	var fs []api.Frame
	for _, o := range l {
		if o.Channel == ch {
			fs = append(fs, o.F)
		}
	}
	return fs
}

// TestCuts: whichever channel is next, a checkpoint that becomes whole is a cut at its barriers.
func TestCuts(t *testing.T) {
	byKind := map[bool]int{}
	for seed := range int64(6000) {
		r := rand.New(rand.NewSource(seed))
		l := someLife(t, r)
		favourite := r.Intn(len(l.queues))
		for range 400 {
			ch := r.Intn(len(l.queues))
			if r.Intn(3) == 0 {
				ch = favourite
			}
			l.step(ch)
		}
		for over, n := range l.whole {
			byKind[over] += n
		}
	}
	if byKind[false] < 1000 || byKind[true] < 1000 {
		t.Errorf("P15.3: only %v were whole", byKind)
	}
}

// TestLeftAlone: what Load is handed stays and isn't kept; no answer is memory of the gate's; no gate is another one.
func TestLeftAlone(t *testing.T) {
	g, other := gate.New(3), gate.New(3)
	handed := []int64{5, 6, 77, 88}
	g.Load(handed[:2])
	if !slices.Equal(handed, []int64{5, 6, 77, 88}) {
		t.Errorf("DOC 3: what was handed in is %v", handed)
	}
	g.Take(0, unaligned(1))
	g.Take(1, record(1))
	g.Take(2, mark(9))
	if !slices.Equal(handed, []int64{5, 6, 77, 88}) {
		t.Errorf("DOC 3: what was handed in is %v", handed)
	}
	spoil(handed, 99)
	spoil(g.Marks(), 99)
	spoil(g.Captured(), out(9, record(9)))
	marks(t, "DOC 3", g, 5, 6, 9)
	has(t, "DOC 3", g, 1, 1, out(1, record(1)), out(2, mark(9)))
	first, second := g.Captured(), g.Captured()
	spoil(first, out(9, record(9)))
	g.Take(1, record(2))
	if !slices.Equal(second, []api.Out{out(1, record(1)), out(2, mark(9))}) {
		t.Errorf("DOC 3: what was answered is %v", second)
	}
	has(t, "DOC 3", g, 1, 1, out(1, record(1)), out(2, mark(9)), out(1, record(2)))
	marks(t, "DOC 3", g, 5, 6, 9)
	look(gate.New(3)).same(t, "DOC 8: another gate", other)
}

// spoil: writes over a list and the room behind it.
func spoil[T any](l []T, x T) {
	l = l[:cap(l)]
	for i := range l {
		l[i] = x
	}
}

// TestKept: nothing is kept of frames that aren't captured, nor of what was captured and went.
func TestKept(t *testing.T) {
	const many = 1 << 18
	g := gate.New(2)
	fill := func(over bool) {
		g.Take(0, api.Frame{Kind: api.FrameBarrier, N: g.Last() + 1, Over: over})
		for i := range int64(many) {
			g.Take(1, record(i))
		}
	}
	before := inUse()
	holds := func(what string) {
		t.Helper()
		if grown := inUse() - before; grown > 1<<20 {
			t.Errorf("LANGUAGE 8: %s: %d bytes are kept", what, grown)
		}
	}
	fill(false)
	holds("aligned")
	tells(t, "P15.1: many", g, 1, aligned(1), both(1))
	fill(true)
	if got := g.Captured(); len(got) != many || got[0] != out(1, record(0)) || got[many-1] != out(1, record(many-1)) {
		t.Errorf("P15.2: %d are captured, wanted %d", len(got), many)
	}
	g.Take(0, aligned(3))
	holds("given up")
	tells(t, "P15.1: many", g, 1, aligned(3), both(3))
	fill(true)
	tells(t, "P15.1: many", g, 1, unaligned(4), full(4))
	g.Take(1, unaligned(5))
	holds("the next one began")
	fill(true)
	g.Load(nil)
	holds("loaded")
	runtime.KeepAlive(g)
}

func inUse() int64 {
	runtime.GC()
	var m runtime.MemStats
	runtime.ReadMemStats(&m)
	return int64(m.HeapAlloc)
}
