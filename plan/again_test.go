package plan_test

import (
	"math/big"
	"math/rand"
	"reflect"
	"slices"
	"testing"

	"leat/api"
	"leat/job"
	"leat/plan"
)

// plainGroup: over numbers without bounds.
func plainGroup(key int64) int {
	n := new(big.Int).Mul(big.NewInt(key), new(big.Int).SetUint64(0x9E3779B97F4A7C15))
	n.Mod(n, new(big.Int).Lsh(big.NewInt(1), 64)) // Mod is never below 0
	return int(n.Rsh(n, 60).Int64())
}

// number: of a node's part among all tasks.
func number(j api.Job, node, part int) int {
	for _, n := range j.Nodes[:node] {
		part += n.Par
	}
	return part
}

func isKeyed(n api.Node) bool { return n.Kind == api.NodeReduce || n.Kind == api.NodeWindow }

// plainPlan: as the chapter tells it.
func plainPlan(j api.Job) api.Plan {
	var p api.Plan
	for node, n := range j.Nodes {
		for part := range n.Par {
			p.Tasks = append(p.Tasks, api.Task{Node: node, Part: part})
		}
		for input, in := range n.In {
			for a := range j.Nodes[in].Par {
				first, behind := 0, n.Par
				if !isKeyed(n) && n.Par == j.Nodes[in].Par {
					first, behind = a, a+1
				}
				for b := first; b < behind; b++ {
					p.Channels = append(p.Channels, api.Channel{From: number(j, in, a), To: number(j, node, b), Input: input})
				}
			}
		}
	}
	return p
}

// plainOuts: node by node and input by input, out of all channels there.
func plainOuts(j api.Job, p api.Plan, task int, key int64) []int {
	var outs []int
	for node, n := range j.Nodes {
		for input := range n.In {
			var there []int
			for i, c := range p.Channels {
				if c.From == task && c.Input == input && p.Tasks[c.To].Node == node {
					there = append(there, i)
				}
			}
			if len(there) > 1 {
				part := plainGroup(key) * n.Par / 16
				there = slices.DeleteFunc(there, func(i int) bool { return p.Tasks[p.Channels[i].To].Part != part })
			}
			outs = append(outs, there...)
		}
	}
	return outs
}

// someJob: one that job.Check takes, its nodes in any order.
func someJob(r *rand.Rand) api.Job {
	for {
		places := r.Perm(2 + r.Intn(api.MaxNodes-1))
		l := make([]api.Node, len(places))
		for i, place := range places {
			kind := 1 + r.Intn(8)
			if i == 0 {
				kind = api.NodeSource
			}
			n := node(kind, 1+r.Intn(api.MaxPar))
			inputs := min(1, kind-api.NodeSource)
			if kind == api.NodeUnion {
				inputs = 1 + r.Intn(api.MaxIn)
			}
			for range inputs {
				n.In = append(n.In, places[r.Intn(i)])
			}
			l[place] = n
		}
		if j := (api.Job{Nodes: l}); job.Check(j) == api.OK {
			return j
		}
	}
}

func someKey(r *rand.Rand) int64 { return int64(r.Uint64()) >> r.Intn(64) }

// TestPlain: jobs at random against a plain reckoning.
func TestPlain(t *testing.T) {
	r := rand.New(rand.NewSource(9))
	for range 2000 {
		j := someJob(r)
		p, want := plan.Make(j), plainPlan(j)
		if !slices.Equal(p.Tasks, want.Tasks) || !slices.Equal(p.Channels, want.Channels) {
			t.Fatalf("P9.1: %+v, wanted %+v: %+v", p, want, j)
		}
		for task := range len(p.Tasks) + 1 {
			var from, to []int
			for i, c := range p.Channels {
				if c.From == task {
					from = append(from, i)
				}
				if c.To == task {
					to = append(to, i)
				}
			}
			if !slices.Equal(plan.From(p, task), from) || !slices.Equal(plan.To(p, task), to) {
				t.Fatalf("P9.3: from %v, wanted %v; to %v, wanted %v: %+v", plan.From(p, task), from, plan.To(p, task), to, j)
			}
			for range 5 {
				key := someKey(r)
				if plan.Group(key) != plainGroup(key) {
					t.Fatalf("P9.2: the group of %d is %d", key, plan.Group(key))
				}
				if got, outs := plan.Outs(j, p, task, key), plainOuts(j, p, task, key); !slices.Equal(got, outs) {
					t.Fatalf("P9.3: of task %d and key %d the outs are %v, wanted %v: %+v", task, key, got, outs, j)
				}
			}
		}
	}
}

// TestOneTask: all records of a key come to one task of a keyed node, from whichever task; and each to just one of each node and input that its task feeds.
func TestOneTask(t *testing.T) {
	r := rand.New(rand.NewSource(94))
	type place struct{ node, input int }
	for range 500 {
		j := someJob(r)
		p := plan.Make(j)
		for range 20 {
			key := someKey(r)
			came := map[int]int{}
			for task := range p.Tasks {
				feeds, goes := map[place]int{}, map[place]int{}
				for _, i := range plan.From(p, task) {
					feeds[place{p.Tasks[p.Channels[i].To].Node, p.Channels[i].Input}] = 1
				}
				for _, i := range plan.Outs(j, p, task, key) {
					to := p.Channels[i].To
					node := p.Tasks[to].Node
					goes[place{node, p.Channels[i].Input}]++
					if before, ok := came[node]; ok && plan.Keyed(j, node) && before != to {
						t.Fatalf("P9.4: the key %d comes to %d and %d: %+v", key, before, to, j)
					}
					came[node] = to
				}
				if !reflect.DeepEqual(feeds, goes) {
					t.Fatalf("P9.3: the task %d feeds %v, a record goes to %v: %+v", task, feeds, goes, j)
				}
			}
		}
	}
}

// TestRefused: of a job that is refused there is no task, however many it asks for.
func TestRefused(t *testing.T) {
	good := api.Job{Nodes: []api.Node{source(2), node(api.NodeWindow, 2, 0), sink(2, 1)}}
	ends := func(alter func(l []api.Node)) {
		t.Helper()
		j := api.Job{Nodes: slices.Clone(good.Nodes)}
		alter(j.Nodes)
		if p := plan.Make(j); len(p.Tasks) != 0 || len(p.Channels) != 0 {
			t.Errorf("P8.4: a plan of %d tasks and %d channels: %+v", len(p.Tasks), len(p.Channels), j)
		}
		for task := -1; task < 7; task++ {
			plan.Outs(j, plan.Make(good), task, int64(task))
			plan.Keyed(j, task)
		}
	}
	for _, n := range append([]int{5, 6}, strange...) {
		for i := range good.Nodes {
			ends(func(l []api.Node) { l[i].Par = 0 })
			ends(func(l []api.Node) { l[i].Par = n })
		}
		ends(func(l []api.Node) { l[1].In = []int{n} })
		ends(func(l []api.Node) { l[1].Win.Kind = n })
	}
	ends(func(l []api.Node) { l[1].In = []int{1} })
	ends(func(l []api.Node) { l[1].Win = api.Window{Kind: api.WinSliding, Size: 65, Slide: 1} })
	if p := plan.Make(api.Job{}); len(p.Tasks) != 0 || len(p.Channels) != 0 {
		t.Errorf("P8.4: of no node there is %+v", p)
	}
	many := slices.Repeat([]api.Node{source(4)}, 1<<16)
	plan.Outs(api.Job{Nodes: many}, plan.Make(api.Job{Nodes: many}), 1, 1)
}

// TestForeign: with a plan that isn't the job's, and numbers that mean nothing, all calls end.
func TestForeign(t *testing.T) {
	r := rand.New(rand.NewSource(99))
	some := func() int {
		if r.Intn(4) == 0 {
			return strange[r.Intn(len(strange))]
		}
		return r.Intn(20) - 2
	}
	for range 20000 {
		j, p := someJob(r), api.Plan{}
		for range r.Intn(8) {
			p.Tasks = append(p.Tasks, api.Task{Node: some(), Part: some()})
		}
		for range r.Intn(12) {
			p.Channels = append(p.Channels, api.Channel{From: some(), To: some(), Input: some()})
		}
		task, key := some(), someKey(r)
		from := plan.From(p, task)
		for _, i := range plan.Outs(j, p, task, key) {
			if !slices.Contains(from, i) {
				t.Fatalf("P9.3: %d isn't from %d: %+v", i, task, p)
			}
		}
		plan.To(p, task)
		plan.Keyed(j, task)
	}
}

// roomy: a copy of a list with something in the spare room behind it.
func roomy[T any](l []T, spare T) []T {
	return slices.Concat(l, []T{spare})[:len(l)]
}

func roomyJob(j api.Job) api.Job {
	l := roomy(j.Nodes, sink(3, 0))
	for i := range l {
		l[i].In, l[i].E.L = roomy(l[i].In, 7), roomy(l[i].E.L, api.Expr{Op: 9})
	}
	return api.Job{Nodes: l}
}

func roomyPlan(p api.Plan) api.Plan {
	return api.Plan{Tasks: roomy(p.Tasks, api.Task{Node: 7, Part: 9}), Channels: roomy(p.Channels, api.Channel{From: 0, To: 1, Input: 9})}
}

// spread: all lists with the spare room behind them.
func spread(j api.Job, p api.Plan) (api.Job, api.Plan) {
	wide := slices.Clone(j.Nodes[:cap(j.Nodes)])
	for i := range wide {
		wide[i].In, wide[i].E.L = wide[i].In[:cap(wide[i].In)], wide[i].E.L[:cap(wide[i].E.L)]
	}
	return api.Job{Nodes: wide}, api.Plan{Tasks: p.Tasks[:cap(p.Tasks)], Channels: p.Channels[:cap(p.Channels)]}
}

// scribble: over a list and the room behind it.
func scribble[T any](l []T, x T) {
	l = l[:cap(l)]
	for i := range l {
		l[i] = x
	}
}

// TestLeftAlone: what is handed in isn't changed, nor is the room behind it; what is answered is new, and the same again.
func TestLeftAlone(t *testing.T) {
	r := rand.New(rand.NewSource(3))
	for range 500 {
		j := someJob(r)
		p := plan.Make(j)
		handed, handedPlan := roomyJob(j), roomyPlan(p)
		before, beforePlan := spread(roomyJob(j), roomyPlan(p))
		for range 2 {
			made := plan.Make(handed)
			if !slices.Equal(made.Tasks, p.Tasks) || !slices.Equal(made.Channels, p.Channels) {
				t.Fatalf("P9.1: another plan: %+v", j)
			}
			scribble(made.Tasks, api.Task{Node: -9})
			scribble(made.Channels, api.Channel{From: -9})
			for task := range p.Tasks {
				key := someKey(r)
				from, to, outs := plan.From(handedPlan, task), plan.To(handedPlan, task), plan.Outs(handed, handedPlan, task, key)
				if !slices.Equal(from, plan.From(p, task)) || !slices.Equal(to, plan.To(p, task)) || !slices.Equal(outs, plan.Outs(j, p, task, key)) {
					t.Fatalf("P9.3: another answer: %+v", j)
				}
				scribble(from, -9)
				scribble(to, -9)
				scribble(outs, -9)
			}
		}
		after, afterPlan := spread(handed, handedPlan)
		if !reflect.DeepEqual(before, after) || !reflect.DeepEqual(beforePlan, afterPlan) {
			t.Fatalf("it has changed: %+v", j)
		}
	}
}
