package task_test

import (
	"math"
	"math/rand"
	"reflect"
	"runtime"
	"slices"
	"testing"

	"leat/api"
	"leat/plan"
	"leat/task"
)

// spoil: writes over a list and the room behind it.
func spoil[T any](l []T, x T) {
	l = l[:cap(l)]
	for i := range l {
		l[i] = x
	}
}

// roomy: a copy of a list with something in the spare room behind it.
func roomy[T any](l []T, spare T) []T {
	return slices.Concat(l, []T{spare})[:len(l)]
}

func spread[T any](l []T) []T { return slices.Clone(l[:cap(l)]) }

func roomySnap(s api.Snap) api.Snap {
	s.Marks, s.Panes, s.Captured = roomy(s.Marks, 99), roomy(s.Panes, pane(9, 9, 9, 9)), roomy(s.Captured, out(9, mark(9)))
	return s
}

func spreadSnap(s api.Snap) api.Snap {
	s.Marks, s.Panes, s.Captured = spread(s.Marks), spread(s.Panes), spread(s.Captured)
	return s
}

func spoilSnap(s api.Snap) {
	spoil(s.Marks, 99)
	spoil(s.Panes, pane(99, 99, 100, 99))
	spoil(s.Captured, out(99, frame(99, 99, 99)))
}

// TestNewKeepsNothing: job, plan and items may be written over behind New, with all that hangs on them; and New changes none of them.
func TestNewKeepsNothing(t *testing.T) {
	r := rand.New(rand.NewSource(163))
	for range 300 {
		j := someJob(r)
		p := plan.Make(j)
		no := r.Intn(len(p.Tasks))
		items := []api.Item(nil)
		if j.Nodes[p.Tasks[no].Node].Kind == api.NodeSource {
			items = someItems(r)
		}
		nodes := roomy(j.Nodes, sink(1, 0))
		for i, n := range nodes {
			nodes[i].In, nodes[i].E.L = roomy(n.In, 9), roomy(n.E.L, c(9))
		}
		handed := api.Job{Nodes: nodes}
		tasks, channels, read := roomy(p.Tasks, api.Task{Node: 9}), roomy(p.Channels, api.Channel{From: no, To: no}), roomy(items, rec(9, 9, 9))
		wasNodes, wasTasks, wasChannels, wasRead := spread(nodes), spread(tasks), spread(channels), spread(read)
		k := task.New(handed, api.Plan{Tasks: tasks, Channels: channels}, no, read)
		if !reflect.DeepEqual(wasNodes, spread(nodes)) || !slices.Equal(wasTasks, spread(tasks)) || !slices.Equal(wasChannels, spread(channels)) || !slices.Equal(wasRead, spread(read)) {
			t.Fatal("DOC 3: what was handed in has changed")
		}
		for _, n := range nodes {
			spoil(n.In, 3)
			spoil(n.E.L, c(77))
		}
		spoil(nodes, api.Node{})
		spoil(tasks, api.Task{Node: -1})
		spoil(channels, api.Channel{From: no, To: no})
		spoil(read, rec(99, 99, 99))
		a := &pair{t: t, r: r, k: k, p: newPlain(j, p, no, items), seen: map[string]int{}}
		for range 30 {
			a.step()
			a.look()
		}
	}
}

// TestLeftAlone: what Restore is handed stays and isn't kept; no answer is memory of the task's, nor of another answer; no task is another one.
func TestLeftAlone(t *testing.T) {
	s := api.Snap{Task: 3, Marks: []int64{7, 4}, Panes: []api.Pane{pane(0, 10, 20, 4), pane(2, 10, 20, 1)}, Captured: []api.Out{out(4, frame(0, 12, 1)), out(4, mark(6))}}
	k, other := ofFan(t, 3), ofFan(t, 3)
	for range 3 {
		handed := roomySnap(s)
		was := spreadSnap(handed)
		got, _, e := k.Restore(handed)
		if e != api.OK || !sameSnap(spreadSnap(handed), was) {
			t.Errorf("DOC 3: what was handed in is %+v, was %+v: %v", spreadSnap(handed), was, e)
		}
		spoilSnap(handed)
		spoil(got, out(99, mark(99)))
		got, _, _ = k.Frame(4, frame(2, 11, 5))
		spoil(got, out(99, mark(99)))
		gives(t, "DOC 3", k, 2, unaligned(1), out(6, unaligned(1)))
		gives(t, "DOC 3", k, 4, frame(0, 13, 1))
		gives(t, "DOC 3", k, 4, unaligned(1))
		_, part, _ := k.Snap()
		want := api.Snap{Task: 3, Marks: []int64{7, 6}, Panes: []api.Pane{pane(0, 10, 20, 5), pane(2, 10, 20, 6)}, Captured: along(frame(0, 13, 1), 4)}
		if !sameSnap(part, want) {
			t.Errorf("DOC 3: %+v, wanted %+v", part, want)
		}
		spoilSnap(part)
		gives(t, "DOC 3", k, 4, aligned(2))
		gives(t, "DOC 3", k, 2, aligned(2), out(6, aligned(2)))
		_, part, _ = k.Snap()
		k.Frame(2, frame(0, 14, 1)) // what was told stays as it was
		k.Frame(2, mark(9))
		want = api.Snap{Task: 3, Marks: []int64{7, 6}, Panes: []api.Pane{pane(0, 10, 20, 6), pane(2, 10, 20, 6)}}
		if !sameSnap(part, want) {
			t.Errorf("DOC 3: %+v, wanted %+v", part, want)
		}
		spoilSnap(part)
		got, _, _ = k.Frame(4, mark(20))
		spoil(got, out(99, mark(99)))
		fired := []api.Out{out(6, frame(0, 19, 7)), out(6, frame(2, 19, 6)), out(6, mark(19))}
		gives(t, "DOC 3", k, 2, mark(19), fired...)
	}
	stands(t, "DOC 8: another task", other, none, 0)
	noSnap(t, "DOC 8: another task", other)
	gives(t, "DOC 8: another task", other, 4, mark(end))
	gives(t, "DOC 8: another task", other, 2, mark(end), out(6, mark(end)))
}

// TestRestoredApart: two tasks of one part, and the part itself, are three things.
func TestRestoredApart(t *testing.T) {
	s := api.Snap{Task: 3, Marks: []int64{7, 4}, Panes: []api.Pane{pane(0, 10, 20, 4)}, Captured: along(frame(0, 12, 1), 4)}
	was := spreadSnap(s)
	a, b := ofFan(t, 3), ofFan(t, 3)
	restores(t, "DOC 8", a, s)
	restores(t, "DOC 8", b, s)
	a.Frame(2, frame(0, 12, 100))
	a.Frame(2, mark(50))
	a.Frame(4, mark(50))
	gives(t, "DOC 8", b, 2, mark(30))
	gives(t, "DOC 8", b, 4, mark(30), out(6, frame(0, 19, 5)), out(6, mark(30)))
	if !sameSnap(s, was) {
		t.Errorf("DOC 3: %+v, was %+v", s, was)
	}
}

// TestSinkApart: a sink's records, and those of a restore, are new lists.
func TestSinkApart(t *testing.T) {
	k := ofFan(t, 5)
	_, recs, _ := k.Frame(6, frame(1, 2, 3))
	spoil(recs, record(9, 9, 9))
	s := api.Snap{Task: 5, Marks: []int64{1, 2}, Captured: along(frame(1, 2, 3), 6, 7)}
	_, recs, _ = k.Restore(s)
	spoil(recs, record(9, 9, 9))
	_, recs, _ = k.Restore(s)
	same(t, "DOC 3", recs, record(1, 2, 3), record(1, 2, 3))
	sinks(t, "DOC 3", k, 6, frame(1, 2, 3), record(1, 2, 3))
}

// ask: every call, with all sorts of arguments.
func ask(k *task.Task, numbers []int, no int) {
	for _, n := range numbers {
		for _, f := range allKinds() {
			k.Frame(n, f)
		}
		k.Blocked(n)
		k.Read()
		k.Trigger(uint64(n), n%2 == 0)
		_, s, ok := k.Snap()
		k.Restore(api.Snap{Task: no, Offset: n, Mark: int64(n)})
		k.Restore(api.Snap{Task: n, Marks: make([]int64, max(0, min(n, 100)))})
		k.Restore(api.Snap{Task: no, Marks: make([]int64, max(0, min(n, 100))), Panes: []api.Pane{pane(1, int64(n), 3, 4)}, Captured: []api.Out{out(n, api.Frame{Kind: n})}})
		if ok {
			k.Restore(s)
		}
		k.Mark()
		k.Offset()
		k.Done()
	}
}

// TestStrange: jobs that are refused, plans of others, tasks that there aren't, items of no kind: all calls end.
func TestStrange(t *testing.T) {
	r := rand.New(rand.NewSource(164))
	numbers := []int{math.MinInt, -1 << 32, -1, 0, 1, 2, 3, 4, 5, 8, 12, 64, 65, 100, 1 << 32, math.MaxInt}
	some := func() int { return numbers[r.Intn(len(numbers))] }
	for range 3000 {
		j := someJob(r)
		if len(j.Nodes) > 0 && r.Intn(2) == 0 {
			n := &j.Nodes[r.Intn(len(j.Nodes))]
			n.Kind, n.Par, n.Agg, n.Win.Kind, n.Win.Size, n.E.Op = some(), some(), some(), some(), int64(some()), some()
		}
		p := plan.Make(someJob(r))
		for range r.Intn(9) {
			p.Tasks = append(p.Tasks, api.Task{Node: some(), Part: some()})
			p.Channels = append(p.Channels, api.Channel{From: some(), To: some(), Input: some()})
		}
		var items []api.Item
		for range r.Intn(4) {
			items = append(items, api.Item{Kind: some(), Rec: record(int64(some()), int64(some()), int64(some())), Mark: int64(some())})
		}
		no := some()
		if r.Intn(2) == 0 {
			no = r.Intn(len(p.Tasks) + 1)
		}
		ask(task.New(j, p, no, items), numbers, no)
	}
	ask(task.New(api.Job{}, api.Plan{}, 0, nil), numbers, 0)
}

// TestManyChannels: more channels than a gate has: no plan has them, and all calls end.
func TestManyChannels(t *testing.T) {
	j, p := taken(t, source(1), sink(1, 0))
	for range 200 {
		p.Channels = append(p.Channels, api.Channel{From: 0, To: 1})
	}
	k := task.New(j, p, 1, nil)
	for ch := range p.Channels {
		k.Frame(ch, unaligned(1))
		k.Frame(ch, mark(5))
		k.Blocked(ch)
	}
	_, s, _ := k.Snap()
	k.Restore(s)
	k.Restore(api.Snap{Task: 1, Marks: make([]int64, len(p.Channels)), Captured: along(frame(1, 2, 3), len(p.Channels)-1)})
}

// TestWide: as many channels as a plan can bring to a task, and as many as can go from one.
func TestWide(t *testing.T) {
	j, p := taken(t, source(4), node(api.NodeUnion, 3, 0, 0, 0, 0), sink(4, 1))
	no := 4
	to := plan.To(p, no)
	if len(to) != 16 {
		t.Fatalf("%d channels", len(to))
	}
	k := task.New(j, p, no, nil)
	for i, ch := range to {
		gives(t, "P16.2: a record", k, ch, frame(1, 2, 3), along(frame(1, 2, 3), plan.Outs(j, p, no, 1)...)...)
		if i < 15 {
			gives(t, "P16.2: a barrier", k, ch, aligned(1))
			gives(t, "P16.2: no barrier yet", k, to[15], mark(int64(i)))
			blocks := slices.IndexFunc(to, func(ch int) bool { return !k.Blocked(ch) })
			if blocks != i+1 {
				t.Errorf("P16.2: %d are blocked, wanted %d", blocks, i+1)
			}
		}
	}
	gives(t, "P16.2: the last barrier", k, to[15], aligned(1), along(aligned(1), plan.From(p, no)...)...)
	want := append(slices.Repeat([]int64{none}, 15), 14)
	snaps(t, "P16.3: marks in the channels' order", k, 1, api.Snap{Task: no, Marks: want})
}

// TestKept: nothing is kept of records that went through, nor of a part that was told, given up or left behind by a restore.
func TestKept(t *testing.T) {
	const many = 1 << 18
	k, s := ofFan(t, 5), api.Snap{Task: 5, Marks: []int64{none, none}}
	n := uint64(0)
	fill := func(over bool) {
		n++
		k.Frame(6, api.Frame{Kind: api.FrameBarrier, N: n, Over: over})
		for i := range int64(many) {
			k.Frame(7, frame(i, i, i))
		}
	}
	before := inUse()
	holds := func(what string) {
		t.Helper()
		if grown := inUse() - before; grown > 1<<20 {
			t.Errorf("LANGUAGE 8: %s: %d bytes are kept", what, grown)
		}
	}
	fill(false)
	holds("aligned")
	fill(true)
	k.Restore(s)
	holds("restored while captured")
	fill(true)
	k.Frame(7, unaligned(n))
	if _, got, ok := k.Snap(); !ok || len(got.Captured) != many {
		t.Errorf("P16.3: %d are captured, wanted %d", len(got.Captured), many)
	}
	fill(false)
	holds("told, and the next one began")
	fill(true)
	k.Frame(7, unaligned(n))
	k.Restore(s)
	holds("restored ahead of being told")
	runtime.KeepAlive(k)
}

func inUse() int64 {
	runtime.GC()
	var m runtime.MemStats
	runtime.ReadMemStats(&m)
	return int64(m.HeapAlloc)
}
