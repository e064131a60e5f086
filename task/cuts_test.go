package task_test

import (
	"math/rand"
	"slices"
	"testing"

	"leat/api"
	"leat/mean"
	"leat/plan"
	"leat/task"
	"leat/window"
)

// world: all tasks of a job, and the frames that wait between them; whatever can be done next is done in a random order.
type world struct {
	t      *testing.T
	r      *rand.Rand
	j      api.Job
	p      api.Plan
	l      api.Logs
	tasks  []*task.Task
	wait   [][]api.Frame
	sunk   [][]api.Record // of each task
	newest uint64         // the newest checkpoint
	left   int            // how many may still begin
	over   map[uint64]bool
	parts  map[uint64]map[int]api.Snap
	upTo   map[uint64]map[int]int // how many records a sink's task had told when its part was kept
	whole  []uint64
	count  map[bool]int // how many were, of each kind
}

func newWorld(t *testing.T, r *rand.Rand, j api.Job, l api.Logs) *world {
	p := plan.Make(j)
	w := &world{t: t, r: r, j: j, p: p, l: l, over: map[uint64]bool{}, parts: map[uint64]map[int]api.Snap{}, upTo: map[uint64]map[int]int{}, count: map[bool]int{}, left: 12}
	w.wait, w.sunk = make([][]api.Frame, len(p.Channels)), make([][]api.Record, len(p.Tasks))
	for no := range p.Tasks {
		w.tasks = append(w.tasks, task.New(j, p, no, w.items(no)))
	}
	return w
}

func (w *world) kind(no int) int { return w.j.Nodes[w.p.Tasks[no].Node].Kind }

func (w *world) items(no int) []api.Item {
	at := w.p.Tasks[no]
	if w.kind(no) != api.NodeSource {
		return nil
	}
	return w.l[at.Node][at.Part]
}

func (w *world) send(no int, outs []api.Out) {
	for _, o := range outs {
		if w.p.Channels[o.Channel].From != no {
			w.t.Fatalf("P16.2: task %d tells along channel %d", no, o.Channel)
		}
		w.wait[o.Channel] = append(w.wait[o.Channel], o.F)
	}
}

// take: the first frame that waits in a channel is worked on.
func (w *world) take(ch int) {
	f, no := w.wait[ch][0], w.p.Channels[ch].To
	w.wait[ch] = w.wait[ch][1:]
	if f.Kind == api.FrameBarrier && w.over[f.N] {
		w.keep(f.N, no)
	}
	outs, recs, e := w.tasks[no].Frame(ch, f)
	if e != api.OK || len(recs) > 0 && w.kind(no) != api.NodeSink {
		w.t.Fatalf("P16.2: Frame(%d, %+v): %v, %v", ch, f, recs, e)
	}
	w.send(no, outs)
	w.sunk[no] = append(w.sunk[no], recs...)
	w.snap(no)
}

// keep: a part of a sink's task is kept now, or was ahead of this.
func (w *world) keep(n uint64, no int) {
	if w.upTo[n] == nil {
		w.upTo[n] = map[int]int{}
	}
	if _, ok := w.upTo[n][no]; !ok {
		w.upTo[n][no] = len(w.sunk[no])
	}
}

func (w *world) snap(no int) {
	n, s, ok := w.tasks[no].Snap()
	if !ok {
		return
	}
	w.keep(n, no)
	if w.parts[n] == nil {
		w.parts[n] = map[int]api.Snap{}
	}
	if _, again := w.parts[n][no]; again || s.Task != no {
		w.t.Fatalf("P16.3: %d of task %d: %+v", n, no, s)
	}
	if w.parts[n][no] = s; len(w.parts[n]) == len(w.tasks) {
		w.whole = append(w.whole, n)
		w.check(n)
	}
}

func (w *world) trigger(no int) {
	w.send(no, w.tasks[no].Trigger(w.newest, w.over[w.newest]))
	w.snap(no)
}

// begin: the next checkpoint; sources are told of it one by one, and some perhaps never.
func (w *world) begin() {
	w.newest++
	w.over[w.newest] = w.r.Intn(2) == 0
}

// mayTrigger: a checkpoint may begin, a source be told of it; but not without an end, as each makes work.
func (w *world) mayTrigger() {
	if w.left > 0 && w.r.Intn(40) == 0 {
		w.left--
		w.begin()
	}
	if no := w.r.Intn(len(w.tasks)); w.newest > 0 && w.kind(no) == api.NodeSource {
		w.trigger(no)
	}
}

// step does one of the things that can be done; false: there is none.
func (w *world) step() bool {
	var can []func()
	for no, k := range w.tasks {
		if w.kind(no) == api.NodeSource && k.Offset() < len(w.items(no)) {
			can = append(can, func() {
				outs, _ := k.Read()
				w.send(no, outs)
			})
		}
	}
	for ch, l := range w.wait {
		if len(l) > 0 && !w.tasks[w.p.Channels[ch].To].Blocked(ch) {
			can = append(can, func() { w.take(ch) })
		}
	}
	if len(can) == 0 {
		return false
	}
	w.mayTrigger()
	can[w.r.Intn(len(can))]()
	return true
}

// finish: all is read and worked on; then one checkpoint more.
func (w *world) finish() {
	for w.step() {
	}
	w.left = 0
	w.begin()
	for no := range w.tasks {
		w.trigger(no)
	}
	for w.step() {
	}
	if !slices.Contains(w.whole, w.newest) {
		w.t.Fatalf("P16.3: %d isn't whole", w.newest)
	}
}

// committed: of a node what its tasks told up to a checkpoint.
func (w *world) committed(node int, n uint64) []api.Record {
	var l []api.Record
	for no, at := range w.p.Tasks {
		if at.Node == node {
			l = append(l, w.sunk[no][:w.upTo[n][no]]...)
		}
	}
	return mean.Sort(l)
}

func (w *world) offsets(n uint64) [][]int {
	l := make([][]int, len(w.j.Nodes))
	for no, at := range w.p.Tasks {
		l[at.Node] = append(l[at.Node], w.parts[n][no].Offset)
	}
	return l
}

// check holds a checkpoint that is whole against what the job means.
func (w *world) check(n uint64) {
	w.count[w.over[n]]++
	offsets := w.offsets(n)
	cut, left, marks := mean.Cut(w.j, w.l, offsets), mean.Left(w.j, w.l, offsets), mean.Marks(w.j, w.l, offsets)
	panes := make([][]api.Pane, len(w.j.Nodes))
	for no, at := range w.p.Tasks {
		s := w.parts[n][no]
		panes[at.Node] = append(panes[at.Node], s.Panes...)
		least := s.Mark
		if w.kind(no) != api.NodeSource {
			least = slices.Min(s.Marks)
		}
		if want := marks[at.Node][at.Part]; least > want || least < want && !w.over[n] {
			w.t.Fatalf("P16.3: %d: task %d's mark is %d, wanted %d", n, no, least, want)
		}
		if len(s.Captured) > 0 && !w.over[n] {
			w.t.Fatalf("P16.3: %d: task %d captured %v", n, no, s.Captured)
		}
	}
	for i, node := range w.j.Nodes {
		got := w.committed(i, n)
		if node.Kind == api.NodeSink && (!mean.Within(got, cut[i]) || !w.over[n] && !slices.Equal(got, cut[i])) {
			w.t.Fatalf("P16.2: %d, unaligned %v: sink %d has %v, wanted %v", n, w.over[n], i, got, cut[i])
		}
		if got := window.Sort(panes[i]); !w.over[n] && !slices.Equal(got, left[i]) {
			w.t.Fatalf("P16.3: %d: node %d has panes %v, wanted %v", n, i, got, left[i])
		}
	}
}

// restored: another world that goes on from a checkpoint that is whole.
func (w *world) restored(n uint64) *world {
	v := newWorld(w.t, w.r, w.j, w.l)
	v.newest = n
	for no, k := range v.tasks {
		v.sunk[no] = slices.Clone(w.sunk[no][:w.upTo[n][no]])
		outs, recs, e := k.Restore(w.parts[n][no])
		if e != api.OK {
			w.t.Fatalf("P16.4: %d: Restore: %v", n, e)
		}
		v.send(no, outs)
		v.sunk[no] = append(v.sunk[no], recs...)
	}
	return v
}

// TestCuts: whichever task is next, a checkpoint of which all parts are whole is a cut of what the job means; and from it the job comes to its end as if nothing had been.
func TestCuts(t *testing.T) {
	count := map[bool]int{}
	for seed := range int64(500) {
		r := rand.New(rand.NewSource(seed))
		j := someJob(r)
		l := someLogs(r, j, r.Intn(2) == 0)
		all := mean.Cut(j, l, nil)
		w := newWorld(t, r, j, l)
		for range 4 {
			w.finish()
			for i, n := range j.Nodes {
				if n.Kind != api.NodeSink {
					continue
				}
				var got []api.Record
				for no, at := range w.p.Tasks {
					if at.Node == i {
						got = append(got, w.sunk[no]...)
					}
				}
				if got = mean.Sort(got); !slices.Equal(got, all[i]) {
					t.Fatalf("P16.5: seed %d: sink %d has %v in the end, wanted %v", seed, i, got, all[i])
				}
			}
			for over, n := range w.count {
				count[over] += n
			}
			w = w.restored(w.whole[r.Intn(len(w.whole))])
		}
	}
	if count[false] < 1000 || count[true] < 1000 {
		t.Errorf("P16.3: only %v were whole", count)
	}
}
