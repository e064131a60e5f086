package job

import (
	"container/heap"

	"leat/api"
)

// Order: see the chapter.
func Order(j api.Job) []int {
	l := newLine(j.Nodes)
	order := []int{}
	for len(l.ready) > 0 {
		order = append(order, l.place())
	}
	return order
}

// line: nodes that wait for their places. Each waits for one of its inputs at a time, so that however many nodes and inputs there are, each input is looked at only a few times.
type line struct {
	nodes  []api.Node
	placed []bool
	passed []int   // of each node how many of its inputs, from the first on, are known to have places
	behind [][]int // of each node those that wait for it
	ready  leastFirst
}

func newLine(nodes []api.Node) *line {
	n := len(nodes)
	l := &line{nodes: nodes, placed: make([]bool, n), passed: make([]int, n), behind: make([][]int, n)}
	all := make([]int, n)
	for i := range all {
		all[i] = i
	}
	l.look(all)
	return l
}

// place gives the least node that is ready its place.
func (l *line) place() int {
	i := heap.Pop(&l.ready).(int)
	l.placed[i] = true
	l.look(l.behind[i])
	return i
}

// look seeks out who may come next. Whoever has an input without a place goes on waiting for that one: on a cycle, or behind one, or for a node that isn't there, forever.
func (l *line) look(waiting []int) {
seek:
	for _, i := range waiting {
		for in := l.nodes[i].In; l.passed[i] < len(in); l.passed[i]++ {
			first := in[l.passed[i]]
			if !isThere(first, l.nodes) {
				continue seek
			}
			if !l.placed[first] {
				l.behind[first] = append(l.behind[first], i)
				continue seek
			}
		}
		heap.Push(&l.ready, i)
	}
}

// leastFirst: numbers, as container/heap asks for them.
type leastFirst []int

func (l leastFirst) Len() int           { return len(l) }
func (l leastFirst) Less(a, b int) bool { return l[a] < l[b] }
func (l leastFirst) Swap(a, b int)      { l[a], l[b] = l[b], l[a] }
func (l *leastFirst) Push(x any)        { *l = append(*l, x.(int)) }

func (l *leastFirst) Pop() any {
	last := len(*l) - 1
	x := (*l)[last]
	*l = (*l)[:last]
	return x
}
