package plan_test

import (
	"math"
	"slices"
	"strconv"
	"testing"

	"leat/api"
	"leat/job"
	"leat/plan"
)

// strange: numbers that no field takes, some of them like a small one in their lowest bits.
var strange = []int{math.MinInt, math.MinInt32, -256, -16, -4, -1, 256 + 1, 1<<16 + 1, 1<<32 + 1, 1<<32 + 2, 1 << 60, math.MaxInt}

// node: one that job.Check takes, where its inputs are nodes.
func node(kind, par int, in ...int) api.Node {
	n := api.Node{Kind: kind, In: in, Par: par}
	switch kind {
	case api.NodeMap, api.NodeFilter, api.NodeKey:
		n.E = api.Expr{Op: api.ExprVal}
	case api.NodeReduce:
		n.Agg = api.AggCount
	case api.NodeWindow:
		n.Agg, n.Win = api.AggSum, api.Window{Kind: api.WinTumbling, Size: 10}
	}
	return n
}

func source(par int) api.Node { return node(api.NodeSource, par) }

func union(par int, in ...int) api.Node { return node(api.NodeUnion, par, in...) }

func sink(par, in int) api.Node { return node(api.NodeSink, par, in) }

// taken: a job that job.Check takes.
func taken(t *testing.T, l ...api.Node) api.Job {
	t.Helper()
	j := api.Job{Nodes: l}
	if e := job.Check(j); e != api.OK {
		t.Fatalf("the test's own job is refused: %v: %+v", e, j)
	}
	return j
}

// plans: each task is told as its node and part, each channel as from where, to where, and which input it is.
func plans(t *testing.T, what string, j api.Job, tasks [][2]int, channels [][3]int) {
	t.Helper()
	p := plan.Make(j)
	if !slices.EqualFunc(p.Tasks, tasks, func(x api.Task, y [2]int) bool { return x == api.Task{Node: y[0], Part: y[1]} }) {
		t.Errorf("P9.1: %s: tasks %v, wanted %v", what, p.Tasks, tasks)
	}
	if !slices.EqualFunc(p.Channels, channels, func(x api.Channel, y [3]int) bool { return x == api.Channel{From: y[0], To: y[1], Input: y[2]} }) {
		t.Errorf("P9.1: %s: channels %v, wanted %v", what, p.Channels, channels)
	}
}

func same(t *testing.T, what string, got []int, want ...int) {
	t.Helper()
	if !slices.Equal(got, want) {
		t.Errorf("%s: %v, wanted %v", what, got, want)
	}
}

func TestTasks(t *testing.T) {
	plans(t, "the least", taken(t, source(1), sink(1, 0)), [][2]int{{0, 0}, {1, 0}}, [][3]int{{0, 1, 0}})
	plans(t, "a sink first", taken(t, sink(1, 1), source(1)), [][2]int{{0, 0}, {1, 0}}, [][3]int{{1, 0, 0}})
	plans(t, "parts", taken(t, source(3), source(1), sink(4, 1)),
		[][2]int{{0, 0}, {0, 1}, {0, 2}, {1, 0}, {2, 0}, {2, 1}, {2, 2}, {2, 3}},
		[][3]int{{3, 4, 0}, {3, 5, 0}, {3, 6, 0}, {3, 7, 0}})
}

// TestFeeds: each kind with each parallelism behind each: which parts are fed, from part to part.
func TestFeeds(t *testing.T) {
	for kind := api.NodeMap; kind <= api.NodeSink; kind++ {
		for from := 1; from <= api.MaxPar; from++ {
			for to := 1; to <= api.MaxPar; to++ {
				var want []api.Channel
				for a := range from {
					for b := range to {
						if a == b || from != to || kind == api.NodeReduce || kind == api.NodeWindow {
							want = append(want, api.Channel{From: 1 + a, To: 1 + from + b})
						}
					}
				}
				j := taken(t, sink(1, 1), source(from), node(kind, to, 1))
				got := slices.DeleteFunc(plan.Make(j).Channels, func(c api.Channel) bool { return c.To == 0 })
				if !slices.Equal(got, want) {
					t.Errorf("P9.1: kind %d with %d parts behind %d: %v, wanted %v", kind, to, from, got, want)
				}
			}
		}
	}
}

// TestInputs: a union's inputs are told apart, also where one stands there twice; channels come node by node, input by input, task by task.
func TestInputs(t *testing.T) {
	j := taken(t, union(2, 2, 1, 2), source(1), source(2), sink(2, 0))
	plans(t, "a union", j,
		[][2]int{{0, 0}, {0, 1}, {1, 0}, {2, 0}, {2, 1}, {3, 0}, {3, 1}},
		[][3]int{{3, 0, 0}, {4, 1, 0}, {2, 0, 1}, {2, 1, 1}, {3, 0, 2}, {4, 1, 2}, {0, 5, 0}, {1, 6, 0}})
	four := taken(t, source(1), union(1, 0, 0, 0, 0), sink(1, 1))
	plans(t, "one input four times", four, [][2]int{{0, 0}, {1, 0}, {2, 0}},
		[][3]int{{0, 1, 0}, {0, 1, 1}, {0, 1, 2}, {0, 1, 3}, {1, 2, 0}})
	p := plan.Make(j)
	same(t, "P9.3: from 3", plan.From(p, 3), 0, 4)
	same(t, "P9.3: from 2", plan.From(p, 2), 2, 3)
	same(t, "P9.3: to 1", plan.To(p, 1), 1, 3, 5)
	same(t, "P9.3: the outs of one that feeds one task twice", plan.Outs(j, p, 4, 1), 1, 5)
	same(t, "P9.3: the outs to a union, group 9", plan.Outs(j, p, 2, 1), 3)
	same(t, "P9.3: the outs to a union, group 0", plan.Outs(j, p, 2, 0), 2)
	same(t, "P9.3: four inputs", plan.Outs(four, plan.Make(four), 0, 1), 0, 1, 2, 3)
}

// TestMost: as many nodes, tasks and channels as there may be.
func TestMost(t *testing.T) {
	l := []api.Node{source(4)}
	for i := range 3 {
		l = append(l, union(4-i%2, i, i, i, i))
	}
	for i := 3; i < 10; i++ {
		l = append(l, node(api.NodeWindow, 4, i))
	}
	l = append(l, sink(4, 10))
	p := plan.Make(taken(t, l...))
	if len(p.Tasks) != 47 || len(p.Channels) != 16+2*48+7*16+4 {
		t.Errorf("P9.1: %d tasks, %d channels", len(p.Tasks), len(p.Channels))
	}
	all := slices.Repeat([]api.Node{sink(4, 0)}, api.MaxNodes)
	all[0] = source(4)
	p = plan.Make(taken(t, all...))
	if len(p.Tasks) != api.MaxTasks || len(p.Channels) != 44 {
		t.Errorf("P9.1: %d tasks, %d channels", len(p.Tasks), len(p.Channels))
	}
	same(t, "P9.3: from the first task", plan.From(p, 0), 0, 4, 8, 12, 16, 20, 24, 28, 32, 36, 40)
	same(t, "P9.3: to the last task", plan.To(p, 47), 43)
}

// TestGroups: by the groups' numbers, worked out apart.
func TestGroups(t *testing.T) {
	for key, want := range map[int64]int{
		0: 0, 1: 9, 2: 3, 3: 13, 4: 7, 5: 1, 6: 11, 7: 5, 8: 15, 100: 12, 1 << 32: 7, 1 << 40: 4, 1 << 60: 5, 1 << 62: 4,
		-1: 6, -2: 12, -8: 0, -1 << 40: 11, math.MaxInt64: 14, math.MinInt64: 8, math.MinInt64 + 1: 1,
	} {
		if got := plan.Group(key); got != want {
			t.Errorf("P9.2: the group of %d is %d, wanted %d", key, got, want)
		}
	}
	var met [api.Groups]int
	for key := range int64(1 << 12) {
		met[plan.Group(key-1<<11)]++
	}
	for g, n := range met {
		if n < 200 || n > 300 {
			t.Errorf("P9.2: the group %d has %d of 4096 keys", g, n)
		}
	}
}

func TestPart(t *testing.T) {
	for par, text := range []string{"0000000000000000", "0000000000000000", "0000000011111111", "0000001111122222", "0000111122223333"} {
		for g := range api.Groups {
			if got := plan.Part(g, par); strconv.Itoa(got) != text[g:g+1] {
				t.Errorf("P9.2: the group %d of %d parts: %d, wanted %s", g, par, got, text[g:g+1])
			}
		}
	}
	for _, n := range append([]int{16, 17, 32}, strange...) {
		for par := 1; par <= api.MaxPar; par++ {
			if plan.Part(n, par) != 0 {
				t.Errorf("P9.2: group %d, which is none", n)
			}
		}
	}
	for _, n := range append([]int{0, 5, 6, 16}, strange...) {
		if plan.Part(15, n) != 0 || plan.Part(n, n) != 0 {
			t.Errorf("P9.2: %d parts", n)
		}
	}
	if plan.Part(plan.Group(1), 4) != 2 {
		t.Error("the example")
	}
}

func TestKeyed(t *testing.T) {
	j := taken(t, source(1), node(api.NodeMap, 1, 0), node(api.NodeFilter, 2, 0), node(api.NodeKey, 3, 0), union(4, 0), node(api.NodeReduce, 1, 0), node(api.NodeWindow, 4, 0), sink(1, 0))
	for _, kind := range []int{api.WinTumbling, api.WinSession} {
		j.Nodes[6].Win.Kind = kind
		for i := range j.Nodes {
			if plan.Keyed(j, i) != (i == 5 || i == 6) {
				t.Errorf("P9.2: Keyed of node %d: %v", i, plan.Keyed(j, i))
			}
		}
	}
	for _, i := range append([]int{8, 9, 12}, strange...) {
		if plan.Keyed(j, i) {
			t.Errorf("P9.2: node %d, which there isn't, is keyed", i)
		}
	}
}

// TestOuts: a task that feeds one in each way: the same part alone, one part of several, the only part.
func TestOuts(t *testing.T) {
	j := taken(t, source(2), node(api.NodeMap, 2, 0), node(api.NodeFilter, 3, 0), node(api.NodeReduce, 2, 0), node(api.NodeWindow, 1, 0), sink(1, 0), sink(4, 0))
	p := plan.Make(j)
	for task := range 2 {
		same(t, "P9.3: to task 2 or 3", plan.To(p, 2+task), task)
	}
	same(t, "P9.3: from 0", plan.From(p, 0), 0, 2, 3, 4, 8, 9, 12, 14, 16, 17, 18, 19)
	same(t, "P9.3: from 1", plan.From(p, 1), 1, 5, 6, 7, 10, 11, 13, 15, 20, 21, 22, 23)
	same(t, "P9.3: group 0 from 0", plan.Outs(j, p, 0, 0), 0, 2, 8, 12, 14, 16)
	same(t, "P9.3: group 0 from 1", plan.Outs(j, p, 1, 0), 1, 5, 10, 13, 15, 20)
	same(t, "P9.3: group 9 from 0", plan.Outs(j, p, 0, 1), 0, 3, 9, 12, 14, 18)
	same(t, "P9.3: group 6 from 1", plan.Outs(j, p, 1, -1), 1, 6, 10, 13, 15, 21)
	same(t, "P9.3: group 15 from 1", plan.Outs(j, p, 1, 8), 1, 7, 11, 13, 15, 23)
	for task := 2; task < 15; task++ {
		same(t, "P9.3: from a task that feeds none", plan.From(p, task))
		same(t, "P9.3: the outs of a task that feeds none", plan.Outs(j, p, task, 1))
	}
	for _, task := range append([]int{len(p.Tasks), len(p.Tasks) + 1}, strange...) {
		same(t, "P9.3: from a task that there isn't", plan.From(p, task))
		same(t, "P9.3: to a task that there isn't", plan.To(p, task))
		same(t, "P9.3: the outs of a task that there isn't", plan.Outs(j, p, task, 1))
	}
	same(t, "P9.3: to a source", append(plan.To(p, 0), plan.To(p, 1)...))
}

// TestNeighbours: each key group is just one part's, each part has some, and they stand side by side.
func TestNeighbours(t *testing.T) {
	for par := 1; par <= api.MaxPar; par++ {
		last, met := 0, map[int]int{}
		for g := range api.Groups {
			part := plan.Part(g, par)
			if part < 0 || part >= par || part != last && part != last+1 {
				t.Errorf("P9.4: of %d parts the group %d is %d's, behind %d's", par, g, part, last)
			}
			last = part
			met[part]++
		}
		if len(met) != par {
			t.Errorf("P9.4: of %d parts only %d have a group", par, len(met))
		}
	}
}
