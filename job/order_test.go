package job_test

import (
	"math"
	"slices"
	"testing"

	"leat/api"
	"leat/job"
)

func orders(t *testing.T, what string, j api.Job, want ...int) {
	t.Helper()
	if got := job.Order(j); !slices.Equal(got, want) {
		t.Errorf("P8.2: %s: order %v, wanted %v", what, got, want)
	}
}

func TestOrder(t *testing.T) {
	orders(t, "no node", api.Job{})
	orders(t, "one", nodes(source()), 0)
	orders(t, "one behind another", nodes(source(), union(0), union(1), sink(2)), 0, 1, 2, 3)
	orders(t, "one ahead of another", nodes(sink(1), union(2), union(3), source()), 3, 2, 1, 0)
	orders(t, "sources alone", nodes(source(), source(), source()), 0, 1, 2)
	orders(t, "one that comes late, and lets a lesser one come", nodes(union(3), source(), union(0), source(), source()), 1, 3, 0, 2, 4)
	orders(t, "the least of those that may come", nodes(union(5), source(), union(1), union(5), source(), source()), 1, 2, 4, 5, 0, 3)
	orders(t, "an input that stands there twice", nodes(union(1, 1, 1), source(), union(0, 1, 0)), 1, 0, 2)
	orders(t, "several inputs", nodes(union(1, 2, 3), source(), source(), source()), 1, 2, 3, 0)
	orders(t, "several inputs, otherwise", nodes(union(3, 1, 2), union(2), union(3), source()), 3, 2, 1, 0)
}

func TestOrderOfCycles(t *testing.T) {
	orders(t, "itself", nodes(union(0)))
	orders(t, "itself, the others not", nodes(source(), union(1), sink(0)), 0, 2)
	orders(t, "itself, and behind it", nodes(source(), union(1), sink(1), sink(0)), 0, 3)
	orders(t, "each other", nodes(union(1), union(0), source(), union(2)), 2, 3)
	orders(t, "fed by another", nodes(source(), union(0, 2), union(1), union(0)), 0, 3)
	orders(t, "a cycle, and far behind it", nodes(union(1), union(2), union(3), union(3), source(), sink(4)), 4, 5)
}

// TestOrderOfWrong: whatever else is wrong with a job, its nodes are in order; one behind a node that isn't there never comes.
func TestOrderOfWrong(t *testing.T) {
	orders(t, "nodes that are none", api.Job{Nodes: make([]api.Node, 3)}, 0, 1, 2)
	orders(t, "many inputs", nodes(union(2, 2, 1, 2, 1, 1, 2), source(), source()), 1, 2, 0)
	orders(t, "sources behind sinks", nodes(node(api.NodeSource, 1), node(api.NodeSink)), 1, 0)
	for _, in := range append([]int{-1, 3, 4}, strange...) {
		orders(t, "behind one that isn't there", nodes(source(), union(0, in), sink(1)), 0)
		orders(t, "behind one that isn't there, and one that is", nodes(union(in, 1), source(), union(1)), 1, 2)
	}
	orders(t, "thirteen", api.Job{Nodes: append(slices.Repeat([]api.Node{union(12)}, 12), source())}, 12, 0, 1, 2, 3, 4, 5, 6, 7, 8, 9, 10, 11)
}

// TestOrderOfMany: it ends soon.
func TestOrderOfMany(t *testing.T) {
	const n = 200000
	line := make([]api.Node, n)
	for i := range line {
		line[i] = node(api.NodeMap, i+1)
	}
	line[n-1] = source()
	want := make([]int, n)
	for i := range want {
		want[i] = n - 1 - i
	}
	if !slices.Equal(job.Order(api.Job{Nodes: line}), want) {
		t.Error("P8.2: a long line")
	}
	line[n-1] = node(api.NodeMap, 0)
	if len(job.Order(api.Job{Nodes: line})) != 0 {
		t.Error("P8.2: a long cycle")
	}
	fan := make([]api.Node, n)
	for i := range fan {
		fan[i] = union(n-1, (i+n-2)%(n-1))
	}
	fan[0], fan[n-1] = union(n-1), source()
	slices.Sort(want)
	if !slices.Equal(job.Order(api.Job{Nodes: fan}), append([]int{n - 1}, want[:n-1]...)) {
		t.Error("P8.2: many behind one")
	}
	wide := nodes(union(slices.Repeat([]int{1}, 1<<22)...), source(), union(math.MaxInt))
	orders(t, "very many inputs", wide, 1, 0)
}
