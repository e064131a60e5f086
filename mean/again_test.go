package mean_test

import (
	"math"
	"math/rand"
	"reflect"
	"slices"
	"testing"

	"leat/agg"
	"leat/api"
	"leat/expr"
	"leat/job"
	"leat/mean"
	"leat/ops"
	"leat/plan"
)

func someExpr(r *rand.Rand, deep int) api.Expr {
	if deep == 0 || r.Intn(3) == 0 {
		return []api.Expr{key, at, val, c(r.Int63n(7) - 2)}[r.Intn(4)]
	}
	return x(api.ExprAdd+r.Intn(api.ExprIf-api.ExprAdd), someExpr(r, deep-1), someExpr(r, deep-1))
}

func someWindow(r *rand.Rand) api.Window {
	size := 1 + r.Int63n(12)
	switch r.Intn(4) {
	case 0:
		return tumbling(size)
	case 1:
		return sliding(size, 1+r.Int63n(15))
	}
	return session(size)
}

func someNode(r *rand.Rand, nodes int) api.Node {
	par, in, aggr := 1+r.Intn(4), r.Intn(nodes), api.AggSum+r.Intn(5)
	switch kind := api.NodeMap + r.Intn(6); kind {
	case api.NodeMap, api.NodeFilter:
		return by(kind, someExpr(r, 2), par, in)
	case api.NodeKey: // keys that fall together
		return by(kind, x(api.ExprAnd, someExpr(r, 1), c(3)), par, in)
	case api.NodeUnion:
		n := union(par, in)
		for range r.Intn(4) {
			n.In = append(n.In, r.Intn(nodes))
		}
		return n
	case api.NodeReduce:
		return reduce(aggr, par, in)
	default:
		return windowed(someWindow(r), aggr, par, in)
	}
}

// shuffled: the same nodes under other numbers, so that inputs may have higher ones.
func shuffled(r *rand.Rand, nodes []api.Node) []api.Node {
	to, out := r.Perm(len(nodes)), make([]api.Node, len(nodes))
	for i, n := range nodes {
		for k, in := range n.In {
			n.In[k] = to[in]
		}
		out[to[i]] = n
	}
	return out
}

func someJob(r *rand.Rand) api.Job {
	for {
		var nodes []api.Node
		for range 1 + r.Intn(2) {
			nodes = append(nodes, source(1+r.Intn(4)))
		}
		for range 1 + r.Intn(6) {
			nodes = append(nodes, someNode(r, len(nodes)))
		}
		for range 1 + r.Intn(2) {
			nodes = append(nodes, sink(1+r.Intn(4), r.Intn(len(nodes))))
			if last := len(nodes) - 1; nodes[nodes[last].In[0]].Kind == api.NodeSink {
				nodes[last].In[0]--
			}
		}
		if j := (api.Job{Nodes: shuffled(r, nodes)}); job.Check(j) == api.OK {
			return j
		}
	}
}

func someRec(r *rand.Rand) api.Item { return rec(r.Int63n(5)-1, r.Int63n(50)-10, r.Int63n(9)-2) }

// someLogs: marks that mostly rise; whole ones end with MaxMark, or have it ahead of that.
func someLogs(r *rand.Rand, j api.Job, whole bool) api.Logs {
	l := make(api.Logs, len(j.Nodes))
	for i, n := range j.Nodes {
		if n.Kind != api.NodeSource {
			continue
		}
		for range n.Par {
			var p []api.Item
			time := r.Int63n(20) - 10
			for range r.Intn(14) {
				switch time += r.Int63n(6); r.Intn(5) {
				case 0:
					p = append(p, mark(time))
				case 1:
					p = append(p, someRec(r))
				default:
					p = append(p, rec(r.Int63n(4)-1, time+r.Int63n(12)-2, r.Int63n(9)-2))
				}
			}
			if whole {
				p = append(p, mark(end))
				if r.Intn(4) == 0 {
					p = append(p, someRec(r), mark(3))
				}
			}
			l[i] = append(l[i], p)
		}
	}
	return l
}

func someOffsets(r *rand.Rand, l api.Logs) [][]int {
	offsets := make([][]int, len(l))
	for i, partitions := range l {
		for _, p := range partitions {
			offsets[i] = append(offsets[i], r.Intn(len(p)+1))
		}
	}
	return offsets
}

// plain: a node's records and panes, list by list, looked at time by time; mark says by which watermark each node fires.
type plain struct {
	j    api.Job
	l    api.Logs
	mark func(node int) int64
}

// out: of a node, in whatever order; and what is left of its panes.
func (p plain) out(node int) ([]api.Record, []api.Pane) {
	n := p.j.Nodes[node]
	if n.Kind == api.NodeSource {
		return p.read(node), nil
	}
	var in, out []api.Record
	for _, from := range n.In {
		l, _ := p.out(from)
		in = append(in, l...)
	}
	if n.Kind == api.NodeReduce || n.Kind == api.NodeWindow {
		return p.fired(node, in)
	}
	for _, r := range in {
		switch n.Kind {
		case api.NodeMap:
			r.Val = expr.Eval(n.E, r)
		case api.NodeKey:
			r.Key = expr.Eval(n.E, r)
		case api.NodeFilter:
			if expr.Eval(n.E, r) == 0 {
				continue
			}
		}
		out = append(out, r)
	}
	return out, nil
}

func (p plain) read(node int) []api.Record {
	var out []api.Record
	for _, items := range p.l[node] {
		for i, it := range items {
			late := func(m api.Item) bool { return m.Kind == api.ItemMark && it.Rec.Time <= m.Mark }
			if it.Kind == api.ItemRecord && !slices.ContainsFunc(items[:i], late) {
				out = append(out, it.Rec)
			}
		}
	}
	return out
}

// group: values of one key and span.
type group struct {
	key  int64
	span api.Span
	vals []int64
}

func (p plain) fired(node int, in []api.Record) ([]api.Record, []api.Pane) {
	n := p.j.Nodes[node]
	var groups []group
	for _, r := range in {
		for _, s := range plainSpans(n, r.Time) {
			groups = append(groups, group{r.Key, s, []int64{r.Val}})
		}
	}
	for mergedTwo(n, groups) {
		groups = slices.DeleteFunc(groups, func(g group) bool { return len(g.vals) == 0 })
	}
	var out []api.Record
	var left []api.Pane
	for _, g := range groups {
		acc, last := agg.All(n.Agg, g.vals), g.span.To-1
		switch {
		case n.Kind == api.NodeReduce && p.mark(node) == end:
			out = append(out, record(g.key, 1<<41, acc))
		case n.Kind == api.NodeWindow && last <= p.mark(node):
			out = append(out, record(g.key, last, acc))
		default:
			left = append(left, api.Pane{Key: g.key, Span: g.span, Acc: acc})
		}
	}
	slices.SortFunc(left, func(a, b api.Pane) int {
		return slices.Compare([]int64{a.Key, a.Span.From, a.Span.To}, []int64{b.Key, b.Span.From, b.Span.To})
	})
	return out, left
}

func plainSpans(n api.Node, time int64) []api.Span {
	if n.Kind == api.NodeReduce {
		return []api.Span{{From: math.MinInt64, To: 1<<41 + 1}}
	}
	var l []api.Span
	for from := time - n.Win.Size + 1; from <= time; from++ {
		begins := from == time
		switch n.Win.Kind {
		case api.WinTumbling:
			begins = from%n.Win.Size == 0
		case api.WinSliding:
			begins = from%n.Win.Slide == 0
		}
		if begins {
			l = append(l, api.Span{From: from, To: from + n.Win.Size})
		}
	}
	return l
}

// mergedTwo: whether two groups that belong together were found; the second one is empty then.
func mergedTwo(n api.Node, l []group) bool {
	for i := range l {
		for k := i + 1; k < len(l); k++ {
			a, b := &l[i], &l[k]
			overlap := n.Win.Kind == api.WinSession && max(a.span.From, b.span.From) < min(a.span.To, b.span.To)
			if a.key == b.key && (a.span == b.span || overlap) {
				a.span = api.Span{From: min(a.span.From, b.span.From), To: max(a.span.To, b.span.To)}
				a.vals = append(a.vals, b.vals...)
				b.vals = nil
				return true
			}
		}
	}
	return false
}

func sorted(l []api.Record) []api.Record {
	slices.SortFunc(l, func(a, b api.Record) int {
		return slices.Compare([]int64{a.Key, a.Time, a.Val}, []int64{b.Key, b.Time, b.Val})
	})
	return l
}

// TestPlain holds All against the plain reckoning.
func TestPlain(t *testing.T) {
	r := rand.New(rand.NewSource(1))
	for range 400 {
		j := someJob(r)
		l := someLogs(r, j, r.Intn(2) == 0)
		p := plain{j, l, func(int) int64 { return end }}
		all := mean.All(j, l)
		for i := range j.Nodes {
			want, _ := p.out(i)
			if !slices.Equal(all[i], sorted(want)) {
				t.Fatalf("P14.2: %v, %v: node %d: %v, wanted %v", j, l, i, all[i], want)
			}
		}
	}
}

// cutLogs: the logs that were read.
func cutLogs(l api.Logs, offsets [][]int) api.Logs {
	out := make(api.Logs, len(l))
	for i, partitions := range l {
		for k, p := range partitions {
			out[i] = append(out[i], p[:offsets[i][k]])
		}
	}
	return out
}

// TestPlainCut holds Cut and Left against the plain reckoning.
func TestPlainCut(t *testing.T) {
	r := rand.New(rand.NewSource(2))
	for range 400 {
		j := someJob(r)
		l := someLogs(r, j, r.Intn(2) == 0)
		offsets := someOffsets(r, l)
		marks := mean.Marks(j, l, offsets)
		p := plain{j, cutLogs(l, offsets), func(node int) int64 { return slices.Min(marks[node]) }}
		cut, left := mean.Cut(j, l, offsets), mean.Left(j, l, offsets)
		for i := range j.Nodes {
			want, panes := p.out(i)
			if !slices.Equal(cut[i], sorted(want)) {
				t.Fatalf("P14.3: %v, %v, %v: node %d: %v, wanted %v", j, l, offsets, i, cut[i], want)
			}
			if !slices.Equal(left[i], panes) {
				t.Fatalf("P14.3: %v, %v, %v: node %d: left %v, wanted %v", j, l, offsets, i, left[i], panes)
			}
		}
	}
}

// running: tasks with their operators, frames that wait in the channels between them, and what came out of each node.
type running struct {
	j     api.Job
	p     api.Plan
	l     api.Logs
	ops   []*ops.Op
	read  []int
	mark  []int64 // of each task
	marks []int64 // of each channel
	wait  [][]api.Frame
	outs  [][]api.Record
}

func newRunning(j api.Job, l api.Logs) *running {
	p := plan.Make(j)
	n := &running{j: j, p: p, l: l, read: make([]int, len(p.Tasks)), wait: make([][]api.Frame, len(p.Channels)), outs: make([][]api.Record, len(j.Nodes))}
	n.mark = slices.Repeat([]int64{none}, len(p.Tasks))
	n.marks = slices.Repeat([]int64{none}, len(p.Channels))
	for _, task := range p.Tasks {
		n.ops = append(n.ops, ops.New(j.Nodes[task.Node]))
	}
	return n
}

func (n *running) emit(task int, recs ...api.Record) {
	for _, r := range recs {
		node := n.p.Tasks[task].Node
		n.outs[node] = append(n.outs[node], r)
		for _, c := range plan.Outs(n.j, n.p, task, r.Key) {
			n.wait[c] = append(n.wait[c], api.Frame{Kind: api.FrameRecord, Rec: r})
		}
	}
}

// rise: a task's watermark may have risen.
func (n *running) rise(task int, m int64) {
	if m <= n.mark[task] {
		return
	}
	n.mark[task] = m
	n.emit(task, n.ops[task].Mark(m)...)
	for _, c := range plan.From(n.p, task) {
		n.wait[c] = append(n.wait[c], api.Frame{Kind: api.FrameMark, Mark: m})
	}
}

func (n *running) take(channel int) {
	f, task := n.wait[channel][0], n.p.Channels[channel].To
	n.wait[channel] = n.wait[channel][1:]
	if f.Kind == api.FrameRecord {
		n.emit(task, n.ops[task].Record(f.Rec)...)
		return
	}
	n.marks[channel] = f.Mark
	least := int64(end)
	for _, c := range plan.To(n.p, task) {
		least = min(least, n.marks[c])
	}
	n.rise(task, least)
}

func (n *running) next(task int) {
	at := n.p.Tasks[task]
	it := n.l[at.Node][at.Part][n.read[task]]
	n.read[task]++
	switch {
	case it.Kind == api.ItemMark:
		n.rise(task, it.Mark)
	case it.Rec.Time > n.mark[task]:
		n.emit(task, it.Rec)
	}
}

// step does one of the things that can be done; false: there is none.
func (n *running) step(r *rand.Rand) bool {
	var can []func()
	for task, at := range n.p.Tasks {
		if n.j.Nodes[at.Node].Kind == api.NodeSource && n.read[task] < len(n.l[at.Node][at.Part]) {
			can = append(can, func() { n.next(task) })
		}
	}
	for c, wait := range n.wait {
		if len(wait) > 0 {
			can = append(can, func() { n.take(c) })
		}
	}
	if len(can) == 0 {
		return false
	}
	can[r.Intn(len(can))]()
	return true
}

// TestRunning holds Cut, Marks and Left against tasks that read so far, in whatever order, till nothing is under way.
func TestRunning(t *testing.T) {
	r := rand.New(rand.NewSource(3))
	for range 300 {
		j := someJob(r)
		l := someLogs(r, j, r.Intn(2) == 0)
		offsets := someOffsets(r, l)
		n := newRunning(j, cutLogs(l, offsets))
		for n.step(r) {
		}
		cut, marks, left := mean.Cut(j, l, offsets), mean.Marks(j, l, offsets), mean.Left(j, l, offsets)
		for i := range j.Nodes {
			if !slices.Equal(cut[i], sorted(n.outs[i])) {
				t.Fatalf("P14.3: %v, %v, %v: node %d: %v, but %v came out", j, l, offsets, i, cut[i], n.outs[i])
			}
			var ran []int64
			panes := map[api.Pane]int{}
			for task, at := range n.p.Tasks {
				if at.Node == i {
					ran = append(ran, n.mark[task])
					for _, p := range n.ops[task].Panes() {
						panes[p]++
					}
				}
			}
			same(t, "P14.3: the marks that the tasks have", marks[i], ran...)
			told := map[api.Pane]int{}
			for _, p := range left[i] {
				told[p]++
			}
			if !reflect.DeepEqual(told, panes) {
				t.Fatalf("P14.3: %v, %v, %v: node %d: %v, but %v are left", j, l, offsets, i, told, panes)
			}
		}
	}
}

// within: each record of a crossed off in b.
func within(a, b []api.Record) bool {
	b = slices.Clone(b)
	for _, x := range a {
		i := slices.Index(b, x)
		if i < 0 {
			return false
		}
		b = slices.Delete(b, i, i+1)
	}
	return true
}

// TestGrows: what came out stays; with all items of Whole logs all has come out.
func TestGrows(t *testing.T) {
	r := rand.New(rand.NewSource(4))
	for range 200 {
		j := someJob(r)
		l := someLogs(r, j, true)
		offsets := someOffsets(r, l)
		before := mean.Cut(j, l, offsets)
		all := mean.All(j, l)
		for range 4 {
			for i, partitions := range l {
				for k, p := range partitions {
					offsets[i][k] = min(offsets[i][k]+r.Intn(5), len(p))
				}
			}
			now := mean.Cut(j, l, offsets)
			for i := range now {
				if !within(before[i], now[i]) || !within(now[i], all[i]) || !mean.Within(before[i], now[i]) {
					t.Fatalf("P14.4: %v, %v, %v: node %d: %v, then %v, of %v", j, l, offsets, i, before[i], now[i], all[i])
				}
			}
			before = now
		}
		if whole := mean.Cut(j, l, nil); !equal(whole, all) {
			t.Fatalf("P14.4: %v, %v: %v, but all is %v", j, l, whole, all)
		}
	}
}

func equal(a, b [][]api.Record) bool { return slices.EqualFunc(a, b, slices.Equal[[]api.Record]) }

// TestAnyOrder: between two watermarks records may stand in any order.
func TestAnyOrder(t *testing.T) {
	r := rand.New(rand.NewSource(5))
	for range 200 {
		j := someJob(r)
		l := someLogs(r, j, r.Intn(2) == 0)
		other := make(api.Logs, len(l))
		for i, partitions := range l {
			for _, p := range partitions {
				other[i] = append(other[i], stirred(r, p))
			}
		}
		if a, b := mean.All(j, l), mean.All(j, other); !equal(a, b) {
			t.Fatalf("P14.4: %v, %v: %v; of %v: %v", j, l, a, other, b)
		}
	}
}

// stirred: neighbours that are records change places, again and again.
func stirred(r *rand.Rand, p []api.Item) []api.Item {
	p = slices.Clone(p)
	for range 4 * len(p) {
		if i := 1 + r.Intn(len(p)); i < len(p) && p[i].Kind == api.ItemRecord && p[i-1].Kind == api.ItemRecord {
			p[i], p[i-1] = p[i-1], p[i]
		}
	}
	return p
}

// TestWithinPlain holds Within and Sort against plain ones.
func TestWithinPlain(t *testing.T) {
	r := rand.New(rand.NewSource(6))
	some := func() []api.Record {
		l := make([]api.Record, r.Intn(7))
		for i := range l {
			l[i] = record(r.Int63n(2), r.Int63n(2), r.Int63n(2))
		}
		return l
	}
	yes := 0
	for range 5000 {
		a, b := some(), some()
		got := mean.Within(a, b)
		if got != within(a, b) {
			t.Fatalf("P14.1: Within(%v, %v): %v", a, b, got)
		}
		if got {
			yes++
		}
		same(t, "P14.1: Sort", mean.Sort(a), sorted(slices.Clone(a))...)
	}
	if yes == 0 || yes == 5000 {
		t.Error("one answer alone was tried")
	}
}

// TestMemory: what is handed in stays as it was, the spare room behind it too; what is answered shares nothing with it, nor with itself, nor with a later answer.
func TestMemory(t *testing.T) {
	r := rand.New(rand.NewSource(7))
	for range 100 {
		j := someJob(r)
		l := someLogs(r, j, r.Intn(2) == 0)
		for i := range l {
			for k, p := range l[i] {
				l[i][k] = append(slices.Clone(p), rec(9, 9, 9), mark(9))[:len(p)]
			}
		}
		offsets := someOffsets(r, l)
		spare := spareOf(l)
		for i := range j.Nodes {
			got := answers(j, l, offsets)
			for _, a := range got {
				scribble(a, i)
			}
			for k, a := range answers(j, l, offsets) {
				if !reflect.DeepEqual(listOf(a, i), listOf(got[k], i)) {
					t.Fatalf("%v, %v: lists of an answer share memory", j, l)
				}
			}
		}
		if !reflect.DeepEqual(spareOf(l), spare) {
			t.Fatalf("%v: the logs have changed", j)
		}
	}
}

func answers(j api.Job, l api.Logs, offsets [][]int) []any {
	return []any{mean.All(j, l), mean.Cut(j, l, offsets), mean.Marks(j, l, offsets), mean.Left(j, l, offsets), mean.All(j, l)}
}

// spareOf: all items and what lies behind them, copied.
func spareOf(l api.Logs) [][]api.Item {
	var out [][]api.Item
	for _, partitions := range l {
		for _, p := range partitions {
			out = append(out, slices.Clone(p[:cap(p)]))
		}
	}
	return out
}

func listOf(answer any, i int) any { return reflect.ValueOf(answer).Index(i).Interface() }

// scribble writes over all lists of an answer but one, and over the room behind them.
func scribble(answer any, but int) {
	v := reflect.ValueOf(answer)
	for i := range v.Len() {
		if i == but {
			continue
		}
		list := v.Index(i)
		list = list.Slice(0, list.Cap())
		for k := range list.Len() {
			list.Index(k).SetZero()
		}
	}
}

func TestLateMemory(t *testing.T) {
	l := append(make([]api.Item, 0, 8), mark(5), rec(1, 5, 1), rec(1, 6, 1))
	before := slices.Clone(l[:cap(l)])
	got := mean.Late(l)
	clear(got[:cap(got)])
	same(t, "P14.1: Late's items stay", l[:cap(l)], before...)
	recs := []api.Record{record(2, 1, 1), record(1, 1, 1)}
	clear(mean.Sort(recs))
	mean.Within(recs, recs)
	same(t, "P14.1: Sort's and Within's records stay", recs, record(2, 1, 1), record(1, 1, 1))
}

// TestSame: the same again, though maps go about in another order.
func TestSame(t *testing.T) {
	r := rand.New(rand.NewSource(8))
	for range 30 {
		j := someJob(r)
		l := someLogs(r, j, true)
		offsets := someOffsets(r, l)
		first := answers(j, l, offsets)
		for range 5 {
			if !reflect.DeepEqual(answers(j, l, offsets), first) {
				t.Fatalf("%v, %v, %v: not the same again", j, l, offsets)
			}
		}
	}
}

// TestGreatest: as many records as can be at all, in a sliding window, in a session, in a union of unions.
func TestGreatest(t *testing.T) {
	var partitions [][]api.Item
	for p := range int64(4) {
		var l []api.Item
		for i := range int64(4095) {
			l = append(l, rec(p, 2*i, i))
		}
		partitions = append(partitions, append(l, mark(end)))
	}
	j, l := given(t, []api.Node{
		source(4),
		windowed(sliding(64, 1), api.AggCount, 4, 0),
		windowed(session(3), api.AggSum, 2, 0),
		union(1, 0, 0, 0, 0),
		union(1, 3, 3, 3, 3),
		union(1, 4, 4, 4, 4),
		reduce(api.AggCount, 3, 5),
		sink(1, 1),
	}, partitions)
	all := mean.All(j, l)
	if n := len(all[7]); n != 4*(2*4095+62) {
		t.Errorf("P14.2: %d records of a sliding window", n)
	}
	if n := len(all[5]); n != 64*4*4095 {
		t.Errorf("P14.2: %d records of a union", n)
	}
	sum := int64(4095 * 4094 / 2)
	last := int64(2*4094 + 2)
	same(t, "P14.2: one session of each key", all[2], record(0, last, sum), record(1, last, sum), record(2, last, sum), record(3, last, sum))
	count := int64(64 * 4095)
	same(t, "P14.2: a reduce of all", all[6], record(0, 1<<41, count), record(1, 1<<41, count), record(2, 1<<41, count), record(3, 1<<41, count))
	if !mean.Within(all[5], all[5]) || mean.Within(all[5], all[4]) {
		t.Error("P14.1: Within of many")
	}
}
