package job_test

import (
	"math"
	"slices"
	"strconv"
	"testing"

	"leat/api"
	"leat/expr"
	"leat/job"
)

// kinds: each kind of node.
var kinds = []int{api.NodeSource, api.NodeMap, api.NodeFilter, api.NodeKey, api.NodeUnion, api.NodeReduce, api.NodeWindow, api.NodeSink}

// strange: numbers that no field takes, some of them like a small one in their lowest bits.
var strange = []int{math.MinInt, math.MinInt32, -256, -1, 256 + 1, 1<<16 + 1, 1<<32 + 1, 1<<32 + 2, math.MaxInt}

func c(n int64) api.Expr { return api.Expr{Op: api.ExprConst, N: n} }

// node: one that Check takes, where its inputs are nodes.
func node(kind int, in ...int) api.Node {
	n := api.Node{Kind: kind, In: in, Par: 1}
	switch kind {
	case api.NodeMap, api.NodeFilter, api.NodeKey:
		n.E = api.Expr{Op: api.ExprVal}
	case api.NodeReduce:
		n.Agg = api.AggCount
	case api.NodeWindow:
		n.Agg, n.Win = api.AggSum, api.Window{Kind: api.WinTumbling, Size: 10}
	}
	return n
}

func source() api.Node { return node(api.NodeSource) }

func union(in ...int) api.Node { return node(api.NodeUnion, in...) }

func sink(in ...int) api.Node { return node(api.NodeSink, in...) }

func sliding(in int, size, slide int64) api.Node {
	n := node(api.NodeWindow, in)
	n.Win = api.Window{Kind: api.WinSliding, Size: size, Slide: slide}
	return n
}

func nodes(l ...api.Node) api.Job { return api.Job{Nodes: l} }

// around: a job with n in its midst, as node 1, behind the source 0 and ahead of a sink of the source's.
func around(n api.Node) api.Job { return nodes(source(), n, sink(0)) }

// ofKind: a node of this kind that fits into around.
func ofKind(kind int) api.Node {
	if kind == api.NodeSource {
		return source()
	}
	return node(kind, 0)
}

// with: n, altered.
func with(n api.Node, alter func(n *api.Node)) api.Node {
	alter(&n)
	return n
}

func checks(t *testing.T, what string, j api.Job, want api.Errno) {
	t.Helper()
	if got := job.Check(j); got != want {
		t.Errorf("P8.1: %s: %v, wanted %v", what, got, want)
	}
}

func weighs(t *testing.T, what string, j api.Job, want ...int) {
	t.Helper()
	if got := job.Weights(j); !slices.Equal(got, want) {
		t.Errorf("P8.2: %s: weights %v, wanted %v", what, got, want)
	}
}

func TestNumbers(t *testing.T) {
	errs := []api.Errno{api.ErrJobSize, api.ErrJobKind, api.ErrJobIn, api.ErrJobCycle, api.ErrJobPar, api.ErrJobExpr, api.ErrJobAgg, api.ErrJobWin, api.ErrJobHeavy, api.ErrJobLogs}
	for i, e := range errs {
		if int(e) != 80+i {
			t.Errorf("the error %d has the number %d", 80+i, int(e))
		}
	}
	if api.MaxNodes != 12 || api.MaxIn != 4 || api.MaxPar != 4 || api.MaxWeight != 64 {
		t.Error("the limits")
	}
}

func TestExample(t *testing.T) {
	j := nodes(source(), sliding(0, 10, 3), sink(1))
	checks(t, "example", j, api.OK)
	weighs(t, "example", j, 1, 4, 4)
}

func TestSize(t *testing.T) {
	checks(t, "nil", api.Job{}, api.ErrJobSize)
	checks(t, "no node", api.Job{Nodes: []api.Node{}}, api.ErrJobSize)
	for n := 1; n <= 40; n++ {
		want := api.OK
		if n > 12 {
			want = api.ErrJobSize
		}
		all := slices.Repeat([]api.Node{source()}, n)
		all[n-1] = sink(0)
		if n > 1 {
			checks(t, strconv.Itoa(n)+" nodes", api.Job{Nodes: all}, want)
		}
		broken := slices.Repeat([]api.Node{{}}, n)
		if n <= 12 {
			want = api.ErrJobKind
		}
		checks(t, strconv.Itoa(n)+" nodes that are none", api.Job{Nodes: broken}, want)
	}
	checks(t, "a source alone", nodes(source()), api.ErrJobSize)
	checks(t, "no sink", nodes(source(), node(api.NodeReduce, 0)), api.ErrJobSize)
	checks(t, "a sink first", nodes(sink(1), source()), api.OK)
	checks(t, "several sinks", nodes(source(), sink(0), sink(0)), api.OK)
	checks(t, "a node that feeds none", nodes(source(), union(0), sink(0)), api.OK)
	checks(t, "two jobs in one", nodes(source(), sink(0), source(), sink(2)), api.OK)
}

func TestKinds(t *testing.T) {
	for _, kind := range kinds {
		checks(t, "kind "+strconv.Itoa(kind), around(ofKind(kind)), api.OK)
	}
	for _, kind := range append([]int{0, 9, 10, 16}, strange...) {
		checks(t, "kind "+strconv.Itoa(kind), around(node(kind, 0)), api.ErrJobKind)
		checks(t, "no input, kind "+strconv.Itoa(kind), around(node(kind)), api.ErrJobKind)
	}
}

// TestInputs: each kind with each number of inputs.
func TestInputs(t *testing.T) {
	least := map[int]int{api.NodeMap: 1, api.NodeFilter: 1, api.NodeKey: 1, api.NodeUnion: 1, api.NodeReduce: 1, api.NodeWindow: 1, api.NodeSink: 1}
	most := map[int]int{api.NodeMap: 1, api.NodeFilter: 1, api.NodeKey: 1, api.NodeUnion: 4, api.NodeReduce: 1, api.NodeWindow: 1, api.NodeSink: 1}
	for _, kind := range kinds {
		for n := range 9 {
			want := api.OK
			if n < least[kind] || n > most[kind] {
				want = api.ErrJobIn
			}
			what := "kind " + strconv.Itoa(kind) + " with " + strconv.Itoa(n) + " inputs"
			checks(t, what, around(node(kind, slices.Repeat([]int{0}, n)...)), want)
		}
	}
}

// TestInputsNumbers: in whatever place of a list they stand.
func TestInputsNumbers(t *testing.T) {
	for _, kind := range kinds[1:] {
		for _, in := range append([]int{-1, 3, 4, 12}, strange...) {
			checks(t, "kind "+strconv.Itoa(kind)+" behind "+strconv.Itoa(in), around(node(kind, in)), api.ErrJobIn)
		}
		checks(t, "kind "+strconv.Itoa(kind)+" behind a sink ahead of it", nodes(source(), sink(0), node(kind, 1)), api.ErrJobIn)
		checks(t, "kind "+strconv.Itoa(kind)+" behind a sink", around(node(kind, 2)), api.ErrJobIn)
		checks(t, "kind "+strconv.Itoa(kind)+" behind a source further on", nodes(node(kind, 1), source(), sink(1)), api.OK)
	}
	for place := range 4 {
		for _, in := range []int{-1, 2, 3} {
			l := []int{0, 0, 0, 0}
			l[place] = in
			checks(t, "a union with one wrong input", around(union(l...)), api.ErrJobIn)
		}
	}
	checks(t, "a sink behind itself", nodes(source(), sink(1)), api.ErrJobIn)
	checks(t, "a source behind one that isn't there", nodes(node(api.NodeSource, -1), sink(0)), api.ErrJobIn)
	checks(t, "an empty list of a source's inputs", nodes(with(source(), func(n *api.Node) { n.In = []int{} }), sink(0)), api.OK)
}

func TestPar(t *testing.T) {
	for _, kind := range kinds {
		for _, par := range append([]int{0, 1, 2, 3, 4, 5, 6, 12, 64}, strange...) {
			want := api.OK
			if par < 1 || par > 4 {
				want = api.ErrJobPar
			}
			j := around(with(ofKind(kind), func(n *api.Node) { n.Par = par }))
			checks(t, "kind "+strconv.Itoa(kind)+" with parallelism "+strconv.Itoa(par), j, want)
		}
	}
}

// deep: so many operators deep, two of them a step.
func deep(n int) api.Expr {
	e := c(1)
	for range n - 1 {
		e = api.Expr{Op: api.ExprAdd, L: []api.Expr{{Op: api.ExprKey}, e}}
	}
	return e
}

// TestExpr: a map, filter or key takes just what expr.Check takes, all others zero alone.
func TestExpr(t *testing.T) {
	exprs := []api.Expr{
		{}, {L: []api.Expr{}}, {N: 1}, {N: -1}, {L: []api.Expr{{}}}, {L: []api.Expr{c(1)}}, {Op: -1}, {Op: 15},
		c(0), c(1), c(math.MinInt64), {Op: api.ExprKey}, {Op: api.ExprTime}, {Op: api.ExprVal}, {Op: api.ExprKey, N: 1},
		{Op: api.ExprAdd}, {Op: api.ExprIf, L: []api.Expr{c(1), c(2), c(3)}}, deep(7), deep(8), deep(9), deep(300),
		{Op: api.ExprMul, L: []api.Expr{c(1), {}}}, {Op: api.ExprXor, L: []api.Expr{c(1), {Op: api.ExprLt, L: []api.Expr{c(1)}}}},
	}
	takes := 0
	for i, e := range exprs {
		for _, kind := range kinds {
			want := api.OK
			switch kind {
			case api.NodeMap, api.NodeFilter, api.NodeKey:
				if expr.Check(e) != api.OK {
					want = api.ErrJobExpr
				}
			default:
				if e.Op != 0 || e.N != 0 || len(e.L) > 0 {
					want = api.ErrJobExpr
				}
			}
			if want == api.OK {
				takes++
			}
			j := around(with(ofKind(kind), func(n *api.Node) { n.E = e }))
			checks(t, "kind "+strconv.Itoa(kind)+" with expression "+strconv.Itoa(i), j, want)
		}
	}
	if takes != 2*5+9*3 {
		t.Errorf("P8.1: %d were to be taken", takes)
	}
}

func TestAgg(t *testing.T) {
	for _, kind := range kinds {
		for _, agg := range append([]int{0, 1, 2, 3, 4, 5, 6, 7}, strange...) {
			fits := agg == 0
			if kind == api.NodeReduce || kind == api.NodeWindow {
				fits = agg >= 1 && agg <= 5
			}
			want := api.OK
			if !fits {
				want = api.ErrJobAgg
			}
			j := around(with(ofKind(kind), func(n *api.Node) { n.Agg = agg }))
			checks(t, "kind "+strconv.Itoa(kind)+" with aggregate "+strconv.Itoa(agg), j, want)
		}
	}
}

func TestWin(t *testing.T) {
	for _, kind := range kinds {
		for _, win := range []api.Window{{}, {Kind: 1}, {Size: 1}, {Slide: 1}, {Kind: -1}, {Size: -1}, {Slide: -1}, {Kind: 1, Size: 1}, {Kind: 2, Size: 1, Slide: 1}, {Kind: 3, Size: 1}} {
			want := api.OK
			if kind != api.NodeWindow && win != (api.Window{}) || kind == api.NodeWindow && (win.Kind < 1 || win.Size < 1) {
				want = api.ErrJobWin
			}
			j := around(with(ofKind(kind), func(n *api.Node) { n.Win = win }))
			checks(t, "kind "+strconv.Itoa(kind)+" with a window", j, want)
		}
	}
}

func TestWinLimits(t *testing.T) {
	sizes := []int64{math.MinInt64, -1 << 36, -1, 0, 1, 2, 1 << 32, 1<<36 - 1, 1 << 36, 1<<36 + 1, 1 << 37, 1 << 62, math.MaxInt64}
	for _, kind := range append([]int{0, 1, 2, 3, 4}, strange...) {
		for _, size := range sizes {
			for _, slide := range sizes {
				fits := kind >= 1 && kind <= 3 && size >= 1 && size <= 1<<36 && slide == 0
				if kind == api.WinSliding {
					fits = size >= 1 && size <= 1<<36 && slide >= 1 && slide <= 1<<36
				}
				want := api.OK
				switch {
				case !fits:
					want = api.ErrJobWin
				case kind == api.WinSliding && size/64 >= slide && size > 64*slide:
					want = api.ErrJobHeavy
				}
				n := node(api.NodeWindow, 0)
				n.Win = api.Window{Kind: kind, Size: size, Slide: slide}
				checks(t, "window "+strconv.Itoa(kind)+" "+strconv.FormatInt(size, 10)+" "+strconv.FormatInt(slide, 10), around(n), want)
			}
		}
	}
}

// faults: of a node, in the order in which they are told.
func faults() []func(n *api.Node) {
	return []func(n *api.Node){
		func(n *api.Node) { n.Kind = 99 },
		func(n *api.Node) { n.In = []int{-1} },
		func(n *api.Node) { n.Par = 0 },
		func(n *api.Node) { n.E = api.Expr{Op: 99} },
		func(n *api.Node) { n.Agg = 99 },
		func(n *api.Node) { n.Win = api.Window{Kind: 99} },
	}
}

// TestFirstFault: of a node with several faults the first one is told.
func TestFirstFault(t *testing.T) {
	errs := []api.Errno{api.ErrJobKind, api.ErrJobIn, api.ErrJobPar, api.ErrJobExpr, api.ErrJobAgg, api.ErrJobWin}
	for _, kind := range kinds {
		for set := 1; set < 1<<len(errs); set++ {
			n, want := ofKind(kind), api.OK
			for i, fault := range faults() {
				if set>>i&1 == 0 {
					continue
				}
				fault(&n)
				if want == api.OK {
					want = errs[i]
				}
			}
			checks(t, "kind "+strconv.Itoa(kind)+" with faults "+strconv.FormatInt(int64(set), 2), around(n), want)
		}
	}
}

// TestFirstNode: of several nodes with faults the first one's is told, whatever it is.
func TestFirstNode(t *testing.T) {
	errs := []api.Errno{api.ErrJobKind, api.ErrJobIn, api.ErrJobPar, api.ErrJobExpr, api.ErrJobAgg, api.ErrJobWin}
	for a, first := range faults() {
		for _, second := range faults() {
			one, other := union(0), union(0)
			first(&one)
			second(&other)
			checks(t, "two nodes with faults", nodes(source(), one, other, sink(0)), errs[a])
			checks(t, "a fault behind a cycle", nodes(union(0), one, sink(0)), errs[a])
			checks(t, "a fault behind what is too heavy", nodes(source(), sliding(0, 65, 1), one, sink(0)), errs[a])
			checks(t, "a fault, and no sink", nodes(source(), one), errs[a])
		}
	}
	checks(t, "an input that is told ahead of its own kind", nodes(sink(1), api.Node{Kind: 99}, sink(0)), api.ErrJobKind)
	checks(t, "a sink's input ahead of the sink's fault", nodes(source(), union(2), with(sink(0), func(n *api.Node) { n.Par = 9 })), api.ErrJobIn)
}

func TestCycle(t *testing.T) {
	checks(t, "itself", nodes(source(), union(1), sink(0)), api.ErrJobCycle)
	checks(t, "itself, beside others", nodes(source(), union(0, 0, 0, 1), sink(1)), api.ErrJobCycle)
	checks(t, "the first one itself", nodes(union(0), sink(0)), api.ErrJobCycle)
	checks(t, "the last one itself", nodes(source(), sink(0), union(2)), api.ErrJobCycle)
	checks(t, "two, each other", nodes(source(), union(2), union(1), sink(0)), api.ErrJobCycle)
	checks(t, "a cycle that is fed", nodes(source(), union(0, 2), node(api.NodeMap, 1), sink(2)), api.ErrJobCycle)
	checks(t, "a cycle and no sink", nodes(source(), union(1)), api.ErrJobCycle)
	checks(t, "a cycle beside what is too heavy", nodes(source(), sliding(0, 65, 1), union(2), sink(1)), api.ErrJobCycle)
	checks(t, "a cycle that is too heavy", nodes(source(), union(0, 1, 1, 1), sliding(1, 65, 1), sink(2)), api.ErrJobCycle)
	for _, kind := range kinds[1:7] {
		checks(t, "itself, kind "+strconv.Itoa(kind), around(node(kind, 1)), api.ErrJobCycle)
	}
	checks(t, "two ways to one", nodes(source(), union(0), union(0), union(1, 2, 1, 0), sink(3)), api.OK)
}

// TestLongCycle: a line of maps whose first one reads, at times, one further on.
func TestLongCycle(t *testing.T) {
	for n := 1; n <= 10; n++ {
		for back := 0; back <= n; back++ {
			l := []api.Node{source()}
			for i := range n {
				l = append(l, node(api.NodeMap, i))
			}
			l[1] = union(0, back)
			want := api.OK
			if back > 0 {
				want = api.ErrJobCycle
			}
			what := strconv.Itoa(n) + " in a line, the first one behind number " + strconv.Itoa(back)
			checks(t, what, api.Job{Nodes: append(slices.Clone(l), sink(0))}, want)
			checks(t, "backwards: "+what, backwards(api.Job{Nodes: append(slices.Clone(l), sink(0))}), want)
		}
	}
}

// backwards: the same job, its nodes numbered from the last one on.
func backwards(j api.Job) api.Job {
	l := slices.Clone(j.Nodes)
	slices.Reverse(l)
	for i, n := range l {
		l[i].In = make([]int, len(n.In))
		for k, in := range n.In {
			l[i].In[k] = len(l) - 1 - in
		}
	}
	return api.Job{Nodes: l}
}

// TestHeavy: MaxWeight is taken, one more isn't.
func TestHeavy(t *testing.T) {
	for _, y := range []struct {
		size, slide int64
		weight      int
	}{
		{1, 1, 1}, {2, 1, 2}, {10, 3, 4}, {9, 3, 3}, {3, 10, 1}, {10, 10, 1}, {11, 10, 2}, {1, api.MaxSpan, 1}, {api.MaxSpan, api.MaxSpan, 1}, {api.MaxSpan, api.MaxSpan - 1, 2}, {63, 1, 63}, {64, 1, 64}, {65, 1, 65}, {66, 1, 65}, {64 * 7, 7, 64}, {64*7 + 1, 7, 65}, {63*7 + 1, 7, 64}, {1000, 1, 65}, {1 << 32, 1, 65}, {1<<32 + 1, 1, 65}, {api.MaxSpan, 1, 65}, {api.MaxSpan, api.MaxSpan / 64, 64}, {api.MaxSpan, api.MaxSpan/64 - 1, 65},
	} {
		what := "sliding " + strconv.FormatInt(y.size, 10) + " by " + strconv.FormatInt(y.slide, 10)
		j := nodes(source(), sliding(0, y.size, y.slide), sink(1))
		want := api.OK
		if y.weight > 64 {
			want = api.ErrJobHeavy
		}
		checks(t, what, j, want)
		weighs(t, what, j, 1, y.weight, y.weight)
		checks(t, "no sink, "+what, nodes(j.Nodes[:2]...), max(want, api.ErrJobSize))
		weighs(t, "no sink, "+what, nodes(j.Nodes[:2]...), 1, y.weight)
		checks(t, "ahead of none, "+what, nodes(source(), sliding(0, y.size, y.slide), sink(0)), want)
	}
}

func TestWeights(t *testing.T) {
	all := nodes(source(), sliding(0, 5, 1), node(api.NodeMap, 1), node(api.NodeFilter, 2), node(api.NodeKey, 3), node(api.NodeReduce, 4), node(api.NodeWindow, 5), sink(6))
	weighs(t, "one behind another", all, 1, 5, 5, 5, 5, 5, 5, 5)
	all.Nodes[6].Win = api.Window{Kind: api.WinSession, Size: 9}
	weighs(t, "a session", all, 1, 5, 5, 5, 5, 5, 5, 5)
	all.Nodes[6].Win = api.Window{Kind: api.WinSliding, Size: 9, Slide: 2}
	weighs(t, "windows of windows", all, 1, 5, 5, 5, 5, 5, 25, 25)
	for i := range all.Nodes {
		all.Nodes[i].Par = 4
	}
	weighs(t, "parallel", all, 1, 5, 5, 5, 5, 5, 25, 25)
	weighs(t, "backwards", backwards(all), 25, 25, 5, 5, 5, 5, 5, 1)

	unions := nodes(source(), union(0, 0, 0, 0), union(1, 1, 1, 1), union(2, 2, 2, 2), union(3), union(4, 0), sink(4))
	checks(t, "unions", unions, api.ErrJobHeavy)
	weighs(t, "unions", unions, 1, 4, 16, 64, 64, 65, 64)
	checks(t, "unions", nodes(append(slices.Clone(unions.Nodes[:5]), sink(4))...), api.OK)
	weighs(t, "sources", nodes(source(), source(), union(0, 1), union(0, 0), union(2, 3, 0), sink(4)), 1, 1, 2, 2, 5, 5)

	huge := nodes(source())
	for i := range 10 {
		huge.Nodes = append(huge.Nodes, sliding(i, api.MaxSpan, 1))
	}
	huge.Nodes = append(huge.Nodes, union(10, 10, 9, 9))
	weighs(t, "much too heavy", huge, 1, 65, 65, 65, 65, 65, 65, 65, 65, 65, 65, 65)
	checks(t, "much too heavy", huge, api.ErrJobHeavy)
}

// TestWeightsOfNone: of what is refused ahead of its weights there are none; of what has no sink, or is too heavy, there are.
func TestWeightsOfNone(t *testing.T) {
	weighs(t, "no node", api.Job{})
	weighs(t, "too many", api.Job{Nodes: slices.Repeat([]api.Node{source()}, 13)})
	weighs(t, "just so many", api.Job{Nodes: slices.Repeat([]api.Node{source()}, 12)}, 1, 1, 1, 1, 1, 1, 1, 1, 1, 1, 1, 1)
	weighs(t, "a cycle", nodes(source(), union(1), sink(0)))
	for _, fault := range faults() {
		n := union(0)
		fault(&n)
		weighs(t, "a node's fault", around(n))
		weighs(t, "a last node's fault", nodes(source(), sliding(0, 99, 1), sink(1), n))
	}
	weighs(t, "no sink", nodes(source(), union(0, 0)), 1, 2)
}
