package task_test

import (
	"math"
	"slices"
	"testing"

	"leat/api"
	"leat/job"
	"leat/plan"
	"leat/task"
)

const (
	end  = math.MaxInt64
	none = math.MinInt64
)

var (
	key = api.Expr{Op: api.ExprKey}
	at  = api.Expr{Op: api.ExprTime}
	val = api.Expr{Op: api.ExprVal}
)

func c(n int64) api.Expr { return api.Expr{Op: api.ExprConst, N: n} }

func x(op int, l ...api.Expr) api.Expr { return api.Expr{Op: op, L: l} }

func node(kind, par int, in ...int) api.Node { return api.Node{Kind: kind, Par: par, In: in} }

func source(par int) api.Node { return node(api.NodeSource, par) }

func sink(par, in int) api.Node { return node(api.NodeSink, par, in) }

func by(kind int, e api.Expr, par, in int) api.Node {
	n := node(kind, par, in)
	n.E = e
	return n
}

func reduce(aggr, par, in int) api.Node {
	n := node(api.NodeReduce, par, in)
	n.Agg = aggr
	return n
}

func windowed(w api.Window, aggr, par, in int) api.Node {
	n := node(api.NodeWindow, par, in)
	n.Win, n.Agg = w, aggr
	return n
}

func tumbling(size int64) api.Window { return api.Window{Kind: api.WinTumbling, Size: size} }

func record(k, t, v int64) api.Record { return api.Record{Key: k, Time: t, Val: v} }

func rec(k, t, v int64) api.Item { return api.Item{Kind: api.ItemRecord, Rec: record(k, t, v)} }

func read(m int64) api.Item { return api.Item{Kind: api.ItemMark, Mark: m} }

func frame(k, t, v int64) api.Frame { return api.Frame{Kind: api.FrameRecord, Rec: record(k, t, v)} }

func mark(m int64) api.Frame { return api.Frame{Kind: api.FrameMark, Mark: m} }

func aligned(n uint64) api.Frame { return api.Frame{Kind: api.FrameBarrier, N: n} }

func unaligned(n uint64) api.Frame { return api.Frame{Kind: api.FrameBarrier, N: n, Over: true} }

func pane(k, from, to, acc int64) api.Pane {
	return api.Pane{Key: k, Span: api.Span{From: from, To: to}, Acc: acc}
}

func out(ch int, f api.Frame) api.Out { return api.Out{Channel: ch, F: f} }

// along: one frame along several channels.
func along(f api.Frame, channels ...int) []api.Out {
	var l []api.Out
	for _, ch := range channels {
		l = append(l, out(ch, f))
	}
	return l
}

func taken(t *testing.T, nodes ...api.Node) (api.Job, api.Plan) {
	t.Helper()
	j := api.Job{Nodes: nodes}
	if e := job.Check(j); e != api.OK {
		t.Fatalf("the job is refused: %v", e)
	}
	return j, plan.Make(j)
}

// fan: tasks 0 (source); 1, 2 (map); 3, 4 (window); 5 (its sink); 6, 7 (the map's sink). Channels: 0, 1 to the maps; 2, 4 to task 3, 3, 5 to task 4; 6, 7 to 5; 8 to 6; 9 to 7. Keys 0 and 2 are of the first parts, 1 and 3 of the second ones.
func fan(t *testing.T) (api.Job, api.Plan) {
	t.Helper()
	j, p := taken(t,
		source(1),
		by(api.NodeMap, x(api.ExprAdd, val, c(1)), 2, 0),
		windowed(tumbling(10), api.AggSum, 2, 1),
		sink(1, 2),
		sink(2, 1))
	for k, want := range map[int64]int{0: 0, 1: 1, 2: 0, 3: 1} {
		if plan.Part(plan.Group(k), 2) != want {
			t.Fatalf("key %d isn't of part %d", k, want)
		}
	}
	return j, p
}

func ofFan(t *testing.T, no int, items ...api.Item) *task.Task {
	t.Helper()
	j, p := fan(t)
	return task.New(j, p, no, items)
}

func same[T comparable](t *testing.T, what string, got []T, want ...T) {
	t.Helper()
	if !slices.Equal(got, want) {
		t.Errorf("%s: %+v, wanted %+v", what, got, want)
	}
}

func gives(t *testing.T, what string, k *task.Task, ch int, f api.Frame, want ...api.Out) {
	t.Helper()
	got, recs, e := k.Frame(ch, f)
	if e != api.OK || len(recs) != 0 {
		t.Errorf("%s: Frame(%d, %+v): %v, %v", what, ch, f, recs, e)
	}
	same(t, what, got, want...)
}

// sinks: a sink's task tells these records, and nothing goes out.
func sinks(t *testing.T, what string, k *task.Task, ch int, f api.Frame, want ...api.Record) {
	t.Helper()
	got, recs, e := k.Frame(ch, f)
	if e != api.OK || len(got) != 0 {
		t.Errorf("%s: Frame(%d, %+v): %v, %v", what, ch, f, got, e)
	}
	same(t, what, recs, want...)
}

func reads(t *testing.T, what string, k *task.Task, want ...api.Out) {
	t.Helper()
	got, ok := k.Read()
	if !ok {
		t.Errorf("%s: there was nothing to be read", what)
	}
	same(t, what, got, want...)
}

func hasRead(t *testing.T, what string, k *task.Task) {
	t.Helper()
	if got, ok := k.Read(); ok || len(got) != 0 {
		t.Errorf("%s: %v, %v, though all was read", what, got, ok)
	}
}

// allKinds: a frame of each kind, and of none.
func allKinds() []api.Frame {
	return []api.Frame{frame(1, 2, 3), mark(1 << 50), aligned(1 << 50), unaligned(1 << 50), {}, {Kind: 4}, {Kind: -1}}
}

func refuses(t *testing.T, what string, k *task.Task, channels ...int) {
	t.Helper()
	for _, ch := range channels {
		for _, f := range allKinds() {
			if got, recs, e := k.Frame(ch, f); e != api.ErrTaskChannel || len(got)+len(recs) != 0 {
				t.Errorf("%s: Frame(%d, %+v): %v, %v, %v", what, ch, f, got, recs, e)
			}
		}
	}
}

// blocks: just these of all channels are blocked.
func blocks(t *testing.T, what string, k *task.Task, want ...int) {
	t.Helper()
	for ch := -2; ch < 20; ch++ {
		if k.Blocked(ch) != slices.Contains(want, ch) {
			t.Errorf("%s: Blocked(%d): %v", what, ch, k.Blocked(ch))
		}
	}
}

func sameSnap(a, b api.Snap) bool {
	return a.Task == b.Task && a.Offset == b.Offset && a.Mark == b.Mark &&
		slices.Equal(a.Marks, b.Marks) && slices.Equal(a.Panes, b.Panes) && slices.Equal(a.Captured, b.Captured)
}

// snaps: it tells this part, once.
func snaps(t *testing.T, what string, k *task.Task, wantN uint64, want api.Snap) {
	t.Helper()
	if n, s, ok := k.Snap(); n != wantN || !ok || !sameSnap(s, want) {
		t.Errorf("%s: Snap: %d, %+v, %v, wanted %d, %+v", what, n, s, ok, wantN, want)
	}
	noSnap(t, what+", once", k)
}

func noSnap(t *testing.T, what string, k *task.Task) {
	t.Helper()
	if n, s, ok := k.Snap(); n != 0 || ok || !sameSnap(s, api.Snap{}) {
		t.Errorf("%s: Snap: %d, %+v, %v, wanted none", what, n, s, ok)
	}
}

// stands: its mark, and how many items were read.
func stands(t *testing.T, what string, k *task.Task, wantMark int64, wantOffset int) {
	t.Helper()
	if k.Mark() != wantMark || k.Offset() != wantOffset || k.Done() != (wantMark == end) {
		t.Errorf("%s: Mark %d, Offset %d, Done %v, wanted %d, %d", what, k.Mark(), k.Offset(), k.Done(), wantMark, wantOffset)
	}
}

func TestNumbersOfErrors(t *testing.T) {
	if api.ErrTaskChannel != 160 || api.ErrTaskSnap != 161 {
		t.Error("P16: the numbers of the errors")
	}
}

func TestExample(t *testing.T) {
	j, p := taken(t, source(1), by(api.NodeMap, x(api.ExprMul, val, c(3)), 1, 0), sink(1, 1))
	k := task.New(j, p, 1, nil)
	gives(t, "a record", k, 0, frame(1, 2, 5), out(1, frame(1, 2, 15)))
	gives(t, "the barrier 1", k, 0, aligned(1), out(1, aligned(1)))
	snaps(t, "the barrier 1", k, 1, api.Snap{Task: 1, Marks: []int64{none}})
}

func TestRead(t *testing.T) {
	k := ofFan(t, 0, rec(0, 5, 2), rec(1, 5, 3), read(9), rec(0, 9, 1), rec(0, 10, 1), read(9), read(4), rec(1, 9, 1), rec(1, 8, 1), read(10), read(end), rec(1, api.MaxTime, 1), read(api.MaxTime))
	stands(t, "P16.4: at first", k, none, 0)
	reads(t, "P16.1: a record of the first part", k, out(0, frame(0, 5, 2)))
	reads(t, "P16.1: a record of the second part", k, out(1, frame(1, 5, 3)))
	stands(t, "P16.4: two were read", k, none, 2)
	reads(t, "P16.1: the first watermark", k, along(mark(9), 0, 1)...)
	stands(t, "P16.4: a watermark", k, 9, 3)
	reads(t, "P16.1: at the watermark: late", k)
	reads(t, "P16.1: above the watermark", k, out(0, frame(0, 10, 1)))
	reads(t, "P16.1: the same watermark", k)
	reads(t, "P16.1: a lower watermark", k)
	stands(t, "P16.4: a lower watermark", k, 9, 7)
	reads(t, "P16.1: late by the greatest one, not by the last", k)
	reads(t, "P16.1: late", k)
	reads(t, "P16.1: a higher watermark", k, along(mark(10), 0, 1)...)
	reads(t, "P16.1: the maximal watermark", k, along(mark(end), 0, 1)...)
	stands(t, "P16.4: the maximal watermark", k, end, 11)
	reads(t, "P16.1: behind the maximal watermark all are late", k)
	reads(t, "P16.1: behind the maximal watermark none is above", k)
	for range 3 {
		hasRead(t, "P16.1", k)
		stands(t, "P16.4: all were read", k, end, 13)
	}
}

func TestReadEdges(t *testing.T) {
	hasRead(t, "P16.1: no items", ofFan(t, 0))
	k := ofFan(t, 0, rec(0, -api.MaxTime, math.MinInt64), read(-api.MaxTime), rec(0, -api.MaxTime, 1), rec(0, 1-api.MaxTime, math.MaxInt64))
	reads(t, "P16.1: the least time", k, out(0, frame(0, -api.MaxTime, math.MinInt64)))
	reads(t, "P16.1: the least watermark", k, along(mark(-api.MaxTime), 0, 1)...)
	reads(t, "P16.1: the least time is late", k)
	reads(t, "P16.1: one above", k, out(0, frame(0, 1-api.MaxTime, math.MaxInt64)))
	many := slices.Repeat([]api.Item{rec(0, 1, 1)}, api.MaxItems)
	k = ofFan(t, 0, many...)
	for range many {
		reads(t, "P16.1: MaxItems", k, out(0, frame(0, 1, 1)))
	}
	hasRead(t, "P16.1: MaxItems", k)
	stands(t, "P16.4: MaxItems", k, none, api.MaxItems)
}

// TestReadOuts: along just those channels that plan tells, in its order: a union's twice, a keyed node's by the key, one of the same parallelism to the same part alone.
func TestReadOuts(t *testing.T) {
	j, p := taken(t,
		source(2),
		node(api.NodeUnion, 2, 0, 0),
		reduce(api.AggSum, 3, 0),
		sink(1, 0),
		sink(4, 1),
		sink(1, 2))
	for no := range 2 {
		for k := range int64(40) {
			src := task.New(j, p, no, []api.Item{rec(k-20, 1, 2), read(3)})
			want := along(frame(k-20, 1, 2), plan.Outs(j, p, no, k-20)...)
			if len(want) != 4 {
				t.Fatalf("%d channels", len(want))
			}
			reads(t, "P16.1: a record", src, want...)
			reads(t, "P16.1: a watermark", src, along(mark(3), plan.From(p, no)...)...)
			same(t, "P16.1: a barrier", src.Trigger(1, true), along(unaligned(1), plan.From(p, no)...)...)
		}
	}
	j, p = taken(t, source(1), sink(1, 0), source(1))
	lone := task.New(j, p, 2, []api.Item{rec(1, 1, 1), read(3)})
	reads(t, "P16.1: a source that feeds nobody", lone)
	reads(t, "P16.1: a source that feeds nobody", lone)
	stands(t, "P16.4: a source that feeds nobody", lone, 3, 2)
	same(t, "P16.1: a source that feeds nobody", lone.Trigger(1, false))
	snaps(t, "P16.3: a source that feeds nobody", lone, 1, api.Snap{Task: 2, Offset: 2, Mark: 3})
}

func TestTrigger(t *testing.T) {
	k := ofFan(t, 0, rec(0, 5, 2), read(9), rec(1, 12, 3))
	noSnap(t, "P16.3: at first", k)
	same(t, "P16.1: no checkpoint has the number 0", k.Trigger(0, false))
	noSnap(t, "P16.1: no checkpoint has the number 0", k)
	same(t, "P16.1: the first one", k.Trigger(3, false), along(aligned(3), 0, 1)...)
	snaps(t, "P16.3: nothing was read", k, 3, api.Snap{Mark: none})
	for _, n := range []uint64{0, 1, 2, 3} {
		same(t, "P16.1: not above", k.Trigger(n, true))
		noSnap(t, "P16.1: not above", k)
	}
	reads(t, "P16.1: behind a barrier", k, out(0, frame(0, 5, 2)))
	same(t, "P16.1: the next one", k.Trigger(4, true), along(unaligned(4), 0, 1)...)
	reads(t, "P16.1: behind a barrier", k, along(mark(9), 0, 1)...)
	snaps(t, "P16.3: as it was then", k, 4, api.Snap{Offset: 1, Mark: none})
	same(t, "P16.1: one far above", k.Trigger(1<<63, false), along(aligned(1<<63), 0, 1)...)
	reads(t, "P16.1: behind a barrier", k, out(1, frame(1, 12, 3)))
	same(t, "P16.1: the greatest one", k.Trigger(math.MaxUint64, true), along(unaligned(math.MaxUint64), 0, 1)...)
	snaps(t, "P16.3: of two the later one alone", k, math.MaxUint64, api.Snap{Offset: 3, Mark: 9})
	same(t, "P16.1: none is above the greatest one", k.Trigger(math.MaxUint64, true))
	hasRead(t, "P16.1: a barrier isn't read", k)
	stands(t, "P16.4: a barrier isn't read", k, 9, 3)
}

func TestSourceHasNoChannels(t *testing.T) {
	k := ofFan(t, 0, rec(0, 5, 2), read(9))
	refuses(t, "P16.1: a source's Frame", k, math.MinInt, -1, 0, 1, 2, 9, 10, math.MaxInt)
	blocks(t, "P16.1: a source's channels", k)
	noSnap(t, "P16.1: a source's Frame", k)
	stands(t, "P16.1: a source's Frame", k, none, 0)
	reads(t, "P16.1: a source's Frame", k, out(0, frame(0, 5, 2)))
}

func TestNoSource(t *testing.T) {
	for no := 1; no < 8; no++ {
		k := ofFan(t, no, rec(0, 5, 2), read(9)) // these aren't its
		hasRead(t, "P16.1: no source", k)
		for _, n := range []uint64{0, 1, math.MaxUint64} {
			same(t, "P16.1: no source", k.Trigger(n, n == 1))
		}
		noSnap(t, "P16.1: no source", k)
		stands(t, "P16.4: no source", k, none, 0)
	}
}

func TestNoSuchChannel(t *testing.T) {
	to := map[int][]int{1: {0}, 2: {1}, 3: {2, 4}, 4: {3, 5}, 5: {6, 7}, 6: {8}, 7: {9}}
	for no, own := range to {
		k := ofFan(t, no)
		for ch := -2; ch < 13; ch++ {
			if !slices.Contains(own, ch) {
				refuses(t, "P16.2: not its channel", k, ch)
			}
		}
		refuses(t, "P16.2: no channel", k, math.MinInt, math.MaxInt, 1<<32, 1<<32+own[0])
		stands(t, "P16.2: nothing has changed", k, none, 0)
		blocks(t, "P16.2: nothing has changed", k)
		noSnap(t, "P16.2: nothing has changed", k)
		for _, ch := range own { // the numbers that were refused weren't met
			k.Frame(ch, aligned(1))
		}
		if n, _, _ := k.Snap(); n != 1 {
			t.Errorf("P16.2: nothing has changed: %d is whole", n)
		}
	}
}

// ofNode: the only task of a node between a source and sinks of one part and of three.
func ofNode(t *testing.T, n api.Node) *task.Task {
	t.Helper()
	j, p := taken(t, source(1), n, sink(1, 1), sink(3, 1))
	return task.New(j, p, 1, nil) // channel 0 to it; 1 and 2, 3, 4 from it
}

func TestRecords(t *testing.T) {
	// of three parts key 0 is the first one's, 1 the second one's, 3 the third one's
	gives(t, "P16.2: a map", ofNode(t, by(api.NodeMap, x(api.ExprAdd, val, key), 1, 0)), 0, frame(1, 2, 5), along(frame(1, 2, 6), 1, 3)...)
	f := ofNode(t, by(api.NodeFilter, x(api.ExprLt, val, c(3)), 1, 0))
	gives(t, "P16.2: a filter", f, 0, frame(0, 2, 2), along(frame(0, 2, 2), 1, 2)...)
	gives(t, "P16.2: a filter", f, 0, frame(0, 2, 3))
	gives(t, "P16.2: a key: by the new one", ofNode(t, by(api.NodeKey, val, 1, 0)), 0, frame(0, 2, 3), along(frame(3, 2, 3), 1, 4)...)
	gives(t, "P16.2: a union", ofNode(t, node(api.NodeUnion, 1, 0)), 0, frame(3, 2, 5), along(frame(3, 2, 5), 1, 4)...)
	gives(t, "P16.2: a reduce", ofNode(t, reduce(api.AggMax, 1, 0)), 0, frame(3, 2, 5))
	gives(t, "P16.2: a window", ofNode(t, windowed(tumbling(5), api.AggMax, 1, 0)), 0, frame(3, 2, 5))
	k := ofFan(t, 5)
	sinks(t, "P16.2: a sink", k, 6, frame(3, 2, 5), record(3, 2, 5))
	sinks(t, "P16.2: a sink", k, 7, frame(3, 2, 5), record(3, 2, 5))
	gives(t, "P16.2: no kind", k, 7, api.Frame{Rec: record(1, 2, 3), Mark: 99, N: 9})
	gives(t, "P16.2: no kind", k, 7, api.Frame{Kind: 4, Rec: record(1, 2, 3), Mark: 99, N: 9})
}

// TestOtherFields: a frame goes out with its kind's fields alone.
func TestOtherFields(t *testing.T) {
	k := ofFan(t, 1)
	full := api.Frame{Rec: record(0, 1, 1), Mark: 7, N: 5, Over: true}
	for kind, want := range map[int]api.Frame{api.FrameRecord: frame(0, 1, 2), api.FrameMark: mark(7), api.FrameBarrier: unaligned(5)} {
		full.Kind = kind
		got, _, _ := k.Frame(0, full)
		if len(got) == 0 || got[0].F != want {
			t.Errorf("DOC 4: %+v: %+v, wanted %+v", full, got, want)
		}
	}
}

func TestMarks(t *testing.T) {
	k := ofFan(t, 3) // channels 2 and 4 to it, 6 from it
	gives(t, "P16.2: a record", k, 2, frame(2, 3, 4))
	gives(t, "P16.2: a record", k, 4, frame(0, 3, 5))
	gives(t, "P16.2: a record", k, 4, frame(0, 13, 1))
	gives(t, "P16.2: the least one stays", k, 2, mark(25))
	stands(t, "P16.4: the least one", k, none, 0)
	gives(t, "P16.2: the least one rises: what was fired, then it", k, 4, mark(9), out(6, frame(0, 9, 5)), out(6, frame(2, 9, 4)), out(6, mark(9)))
	stands(t, "P16.4: the least one", k, 9, 0)
	gives(t, "P16.2: not above its channel's", k, 4, mark(9))
	gives(t, "P16.2: not above its channel's", k, 2, mark(24))
	gives(t, "P16.2: late", k, 2, frame(0, 9, 7))
	gives(t, "P16.2: the least one, not the one that came", k, 4, mark(30), out(6, frame(0, 19, 1)), out(6, mark(25)))
	gives(t, "P16.2: nothing is fired", k, 2, mark(28), out(6, mark(28)))
	gives(t, "P16.2: the end of one", k, 2, mark(end), out(6, mark(30)))
	gives(t, "P16.2: the end of all", k, 4, mark(end), out(6, mark(end)))
	stands(t, "P16.4: the end of all", k, end, 0)
	gives(t, "P16.2: behind the end", k, 4, mark(end))
}

func TestMarksOfOthers(t *testing.T) {
	gives(t, "P16.2: a map", ofFan(t, 2), 1, mark(7), along(mark(7), 4, 5, 9)...)
	k := ofFan(t, 5)
	gives(t, "P16.2: a sink", k, 6, mark(7))
	gives(t, "P16.2: a sink", k, 7, mark(end))
	stands(t, "P16.4: a sink", k, 7, 0)
	gives(t, "P16.2: a sink", k, 6, mark(end))
	stands(t, "P16.4: a sink", k, end, 0)
	r := ofNode(t, reduce(api.AggCount, 1, 0))
	gives(t, "P16.2: a reduce", r, 0, frame(3, 2, 5))
	gives(t, "P16.2: a reduce", r, 0, frame(3, 9, 5))
	gives(t, "P16.2: a reduce", r, 0, frame(0, 9, 5))
	gives(t, "P16.2: a reduce: not yet", r, 0, mark(end-1), along(mark(end-1), 1, 2, 3, 4)...)
	last := slices.Concat(along(frame(0, api.EndTime, 1), 1, 2), along(frame(3, api.EndTime, 2), 1, 4), along(mark(end), 1, 2, 3, 4))
	gives(t, "P16.2: a reduce: each along its key's channels, then the mark along all", r, 0, mark(end), last...)
}

func TestAligned(t *testing.T) {
	k := ofFan(t, 3)
	gives(t, "P16.2: a record", k, 2, frame(0, 3, 4))
	gives(t, "P16.2: a mark", k, 2, mark(20))
	gives(t, "P16.2: the first barrier", k, 2, aligned(1))
	blocks(t, "P16.2: the first barrier", k, 2)
	noSnap(t, "P16.3: the first barrier", k)
	refuses(t, "P16.2: blocked", k, 2)
	blocks(t, "P16.2: what was refused changed nothing", k, 2)
	gives(t, "P16.2: ahead of its barrier", k, 4, frame(2, 3, 5))
	gives(t, "P16.2: the last barrier", k, 4, aligned(1), out(6, aligned(1)))
	blocks(t, "P16.2: the last barrier", k)
	gives(t, "P16.2: behind the barriers", k, 4, frame(2, 4, 1))
	gives(t, "P16.2: behind the barriers", k, 4, mark(2), out(6, mark(2)))
	snaps(t, "P16.3: as it was then", k, 1, api.Snap{Task: 3, Marks: []int64{20, none}, Panes: []api.Pane{pane(0, 0, 10, 4), pane(2, 0, 10, 5)}})
	for _, n := range []uint64{0, 1} {
		gives(t, "P16.5: met once", k, 2, aligned(n))
		gives(t, "P16.5: met once", k, 4, unaligned(n))
		blocks(t, "P16.5: met once", k)
		noSnap(t, "P16.5: met once", k)
	}
}

func TestUnaligned(t *testing.T) {
	k := ofFan(t, 4) // channels 3 and 5 to it, 7 from it
	gives(t, "P16.2: a record", k, 5, frame(1, 3, 4))
	gives(t, "P16.2: a mark", k, 3, mark(20))
	gives(t, "P16.2: the first barrier", k, 3, unaligned(2), out(7, unaligned(2)))
	blocks(t, "P16.2: the first barrier", k)
	noSnap(t, "P16.3: it isn't whole", k)
	gives(t, "P16.2: captured", k, 5, frame(3, 4, 1))
	gives(t, "P16.2: behind its barrier", k, 3, frame(3, 5, 2))
	gives(t, "P16.2: captured", k, 5, mark(9), out(7, frame(1, 9, 4)), out(7, frame(3, 9, 3)), out(7, mark(9)))
	gives(t, "P16.2: captured, though not above", k, 5, mark(8))
	gives(t, "P16.2: no kind isn't captured", k, 5, api.Frame{Kind: 7})
	gives(t, "P16.2: its barrier has come", k, 3, unaligned(2))
	noSnap(t, "P16.3: it isn't whole", k)
	gives(t, "P16.2: the last barrier", k, 5, unaligned(2))
	gives(t, "P16.2: behind its barrier", k, 5, frame(3, 15, 2))
	captured := []api.Out{out(5, frame(3, 4, 1)), out(5, mark(9)), out(5, mark(8))}
	snaps(t, "P16.3: as it was then, and the captured", k, 2, api.Snap{Task: 4, Marks: []int64{20, none}, Panes: []api.Pane{pane(1, 0, 10, 4)}, Captured: captured})
	gives(t, "P16.5: met once", k, 3, unaligned(2))
	gives(t, "P16.2: the next one", k, 5, aligned(3))
	gives(t, "P16.2: the next one", k, 3, aligned(3), out(7, aligned(3)))
	snaps(t, "P16.3: nothing is captured of an aligned one", k, 3, api.Snap{Task: 4, Marks: []int64{20, 9}, Panes: []api.Pane{pane(3, 10, 20, 2)}})
}

// TestOneChannel: of one channel alone a part is whole in one step, aligned or not.
func TestOneChannel(t *testing.T) {
	k := ofFan(t, 6)
	sinks(t, "P16.2: a sink's barrier goes nowhere", k, 8, aligned(1))
	snaps(t, "P16.3: aligned", k, 1, api.Snap{Task: 6, Marks: []int64{none}})
	sinks(t, "P16.2: a sink's record", k, 8, frame(1, 2, 3), record(1, 2, 3))
	sinks(t, "P16.2: a sink's mark", k, 8, mark(5))
	sinks(t, "P16.2: a sink's barrier goes nowhere", k, 8, unaligned(7))
	snaps(t, "P16.3: unaligned", k, 7, api.Snap{Task: 6, Marks: []int64{5}})
	m := ofFan(t, 1)
	gives(t, "P16.2: along all channels", m, 0, unaligned(1), along(unaligned(1), 2, 3, 8)...)
	gives(t, "P16.2: along all channels", m, 0, aligned(2), along(aligned(2), 2, 3, 8)...)
	snaps(t, "P16.3: of two the later one alone", m, 2, api.Snap{Task: 1, Marks: []int64{none}})
}

// TestOverAsItCame: of the barrier at which the part is kept.
func TestOverAsItCame(t *testing.T) {
	k := ofFan(t, 3)
	gives(t, "P16.2: aligned by its first one", k, 2, aligned(1))
	gives(t, "P16.2: Over as it came", k, 4, unaligned(1), out(6, unaligned(1)))
	snaps(t, "P16.3: aligned", k, 1, api.Snap{Task: 3, Marks: []int64{none, none}})
	gives(t, "P16.2: unaligned by its first one", k, 2, unaligned(2), out(6, unaligned(2)))
	gives(t, "P16.2: a record", k, 4, frame(0, 1, 1))
	gives(t, "P16.2: its last one", k, 4, aligned(2))
	snaps(t, "P16.3: unaligned", k, 2, api.Snap{Task: 3, Marks: []int64{none, none}, Captured: []api.Out{out(4, frame(0, 1, 1))}})
}

// TestGivenUp: a checkpoint that a higher number gives up has no part, whichever kinds both are.
func TestGivenUp(t *testing.T) {
	for _, first := range []api.Frame{aligned(1), unaligned(1)} {
		for _, second := range []api.Frame{aligned(5), unaligned(5)} {
			k := ofFan(t, 3)
			k.Frame(2, first)
			gives(t, "P16.2: a record", k, 4, frame(0, 1, 1))
			got, _, e := k.Frame(4, second)
			if e != api.OK || (len(got) == 1) != second.Over {
				t.Errorf("P16.2: the higher one: %v, %v", got, e)
			}
			noSnap(t, "P16.3: given up", k)
			if second.Over {
				blocks(t, "P16.2: the higher one", k)
				gives(t, "P16.2: captured", k, 2, frame(0, 2, 2))
			} else {
				blocks(t, "P16.2: the higher one", k, 4)
				gives(t, "P16.2: ahead of its barrier", k, 2, frame(0, 2, 2))
			}
			gives(t, "P16.5: the lower one isn't met again", k, 2, first)
			noSnap(t, "P16.3: given up", k)
			k.Frame(2, second)
			want := api.Snap{Task: 3, Marks: []int64{none, none}, Panes: []api.Pane{pane(0, 0, 10, 3)}}
			if second.Over {
				want.Panes, want.Captured = []api.Pane{pane(0, 0, 10, 1)}, []api.Out{out(2, frame(0, 2, 2))}
			}
			snaps(t, "P16.3: the higher one", k, 5, want)
		}
	}
}

// TestLaterAlone: a part that wasn't asked for stays while the next one is under way, and goes when that one is whole.
func TestLaterAlone(t *testing.T) {
	begun := func() *task.Task {
		k := ofFan(t, 3)
		k.Frame(2, aligned(1))
		k.Frame(4, aligned(1))
		k.Frame(2, frame(0, 1, 1))
		k.Frame(2, unaligned(2))
		k.Frame(4, frame(0, 2, 2))
		return k
	}
	k := begun()
	snaps(t, "P16.3: the next one isn't whole", k, 1, api.Snap{Task: 3, Marks: []int64{none, none}})
	second := api.Snap{Task: 3, Marks: []int64{none, none}, Panes: []api.Pane{pane(0, 0, 10, 1)}, Captured: []api.Out{out(4, frame(0, 2, 2))}}
	k.Frame(4, unaligned(2))
	snaps(t, "P16.3: the next one", k, 2, second)
	k = begun()
	k.Frame(4, unaligned(2))
	snaps(t, "P16.3: of two the later one alone", k, 2, second)
}
