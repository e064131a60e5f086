package script_test

import (
	"fmt"
	"math"
	"math/rand"
	"strings"
	"testing"

	"leat/api"
	"leat/expr"
	"leat/script"
)

func tells(t *testing.T, want string, nodes ...api.Node) {
	t.Helper()
	is(t, "P20.2", script.Job(jobOf(nodes...)), want)
}

func TestJob(t *testing.T) {
	tells(t, "")
	tells(t, "0 source par 2\n", node(api.NodeSource, 2))
	j := jobOf(node(api.NodeSource, 2), by(api.NodeKey, x(api.ExprAnd, x(api.ExprVal), c(3)), 2, 0), node(api.NodeUnion, 1, 1, 0, 1),
		windowed(api.Window{Kind: api.WinSliding, Size: 10, Slide: 3}, api.AggMax, 3, 2), reduce(api.AggCount, 4, 3), node(api.NodeSink, 1, 4))
	is(t, "P20.2", script.Job(j), "0 source par 2\n1 key in 0 par 2 and(val, c3)\n2 union in 1,0,1 par 1\n3 window in 2 par 3 max sliding 10 3\n4 reduce in 3 par 4 count\n5 sink in 4 par 1\n")
}

func TestKinds(t *testing.T) {
	for kind, want := range []string{"0 ? par 1\n", "0 source par 1\n", "0 map par 1 val\n", "0 filter par 1 val\n", "0 key par 1 val\n", "0 union par 1\n", "0 reduce par 1 sum\n", "0 window par 1 sum session 5\n", "0 sink par 1\n", "0 ? par 1\n"} {
		n := node(kind, 1)
		n.E, n.Agg, n.Win = x(api.ExprVal), api.AggSum, api.Window{Kind: api.WinSession, Size: 5}
		tells(t, want, n)
	}
	for _, kind := range []int{-1, math.MinInt, math.MaxInt, 256 + api.NodeSink} {
		tells(t, "0 ? par 1\n", node(kind, 1))
	}
}

func TestInputsAndPar(t *testing.T) {
	tells(t, "0 sink par 0\n", api.Node{Kind: api.NodeSink, In: []int{}})
	tells(t, "0 sink in 0 par 0\n", node(api.NodeSink, 0, 0))
	tells(t, "0 source in 7,-1,7 par -5\n", node(api.NodeSource, -5, 7, -1, 7))
	tells(t, "0 union in 9223372036854775807,-9223372036854775808 par 9223372036854775807\n", node(api.NodeUnion, math.MaxInt, math.MaxInt, math.MinInt))
	tells(t, "0 union in 0,1,2,3,4,5 par -9223372036854775808\n", node(api.NodeUnion, math.MinInt, 0, 1, 2, 3, 4, 5))
}

func TestExprs(t *testing.T) {
	tells(t, "0 map in 3 par 1 if(lt(val, c0), c-1, c1)\n", by(api.NodeMap, x(api.ExprIf, x(api.ExprLt, x(api.ExprVal), c(0)), c(-1), c(1)), 1, 3))
	tells(t, "0 filter in 3 par 1 c9223372036854775807\n", by(api.NodeFilter, c(math.MaxInt64), 1, 3))
	tells(t, "0 key in 3 par 1 key\n", by(api.NodeKey, x(api.ExprKey), 1, 3))
	tells(t, "0 key in 3 par 1 "+expr.Text(deep(api.MaxDepth))+"\n", by(api.NodeKey, deep(api.MaxDepth), 1, 3))
}

// TestNoExprs: expr.Text is nothing, but its place stays.
func TestNoExprs(t *testing.T) {
	for _, e := range []api.Expr{{}, x(99), x(api.ExprAdd), x(api.ExprKey, c(1)), deep(api.MaxDepth + 1), deep(100000)} {
		tells(t, "0 map in 3 par 1 \n1 source par 1\n", by(api.NodeMap, e, 1, 3), node(api.NodeSource, 1))
	}
}

func TestAggregates(t *testing.T) {
	for aggr, word := range []string{"?", "sum", "count", "min", "max", "xor", "?"} {
		tells(t, "0 reduce in 0 par 1 "+word+"\n1 window in 0 par 1 "+word+" tumbling 1\n", reduce(aggr, 1, 0), windowed(api.Window{Kind: api.WinTumbling, Size: 1}, aggr, 1, 0))
	}
	for _, aggr := range []int{-1, math.MinInt, math.MaxInt, 256 + api.AggSum} {
		tells(t, "0 reduce in 0 par 1 ?\n", reduce(aggr, 1, 0))
	}
}

func TestWindows(t *testing.T) {
	for kind, text := range []string{"?", "tumbling -7", "sliding -7 9", "session -7", "?"} {
		tells(t, "0 window in 0 par 1 min "+text+"\n", windowed(api.Window{Kind: kind, Size: -7, Slide: 9}, api.AggMin, 1, 0))
	}
	tells(t, "0 window in 0 par 1 ? sliding -9223372036854775808 9223372036854775807\n", windowed(api.Window{Kind: api.WinSliding, Size: math.MinInt64, Slide: math.MaxInt64}, 0, 1, 0))
	tells(t, "0 window in 0 par 1 ? ?\n", windowed(api.Window{Kind: -1, Size: 1}, 0, 1, 0))
}

// nth: the word at that place, from 1 on.
func nth(words string, n int) string {
	l := strings.Fields(words)
	if n < 1 || n > len(l) {
		return "?"
	}
	return l[n-1]
}

// plainNode: as the chapter tells it.
func plainNode(number int, n api.Node) string {
	kind := nth("source map filter key union reduce window sink", n.Kind)
	s := fmt.Sprint(number, " ", kind)
	if len(n.In) > 0 {
		s += " in " + strings.ReplaceAll(strings.Trim(fmt.Sprint(n.In), "[]"), " ", ",")
	}
	s += fmt.Sprint(" par ", n.Par)
	if strings.Contains(" map filter key ", " "+kind+" ") {
		s += " " + expr.Text(n.E)
	}
	if kind == "reduce" || kind == "window" {
		s += " " + nth("sum count min max xor", n.Agg)
	}
	if kind == "window" {
		s += " " + nth("tumbling sliding session", n.Win.Kind)
		if n.Win.Kind >= api.WinTumbling && n.Win.Kind <= api.WinSession {
			s += fmt.Sprint(" ", n.Win.Size)
		}
		if n.Win.Kind == api.WinSliding {
			s += fmt.Sprint(" ", n.Win.Slide)
		}
	}
	return s + "\n"
}

func plainJob(j api.Job) string {
	s := ""
	for number, n := range j.Nodes {
		s += plainNode(number, n)
	}
	return s
}

func TestPlainJob(t *testing.T) {
	for _, j := range good() {
		is(t, "P20.2", script.Job(j), plainJob(j))
	}
	r := rand.New(rand.NewSource(2))
	for range 2000 {
		j := oddJob(r)
		is(t, "P20.2", script.Job(j), plainJob(j))
	}
}

// TestManyNodes: more of them than a job may have.
func TestManyNodes(t *testing.T) {
	n := windowed(api.Window{Kind: api.WinSliding, Size: 2, Slide: 1}, api.AggSum, 1, 0)
	n.In = make([]int, 1000)
	for i := range n.In {
		n.In[i] = i
	}
	j := jobOf()
	for range 1000 {
		j.Nodes = append(j.Nodes, n)
	}
	is(t, "P20.2: lines", strings.Count(script.Job(j), "\n"), 1000)
	if !strings.HasSuffix(script.Job(j), ",998,999 par 1 sum sliding 2 1\n") {
		t.Error("P20.2: many")
	}
}
