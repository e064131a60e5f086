package job_test

import (
	"math/big"
	"math/rand"
	"reflect"
	"slices"
	"testing"

	"leat/api"
	"leat/expr"
	"leat/job"
)

// reaches: whether what comes out of node from comes to node to, by at most so many steps.
func reaches(l []api.Node, from, to, steps int) bool {
	for _, in := range l[to].In {
		if in == from || steps > 1 && reaches(l, from, in, steps-1) {
			return true
		}
	}
	return false
}

// plainNode: as the chapter tells it, table by table.
func plainNode(l []api.Node, n api.Node) api.Errno {
	inputs := map[int][2]int{api.NodeSource: {0, 0}, api.NodeMap: {1, 1}, api.NodeFilter: {1, 1}, api.NodeKey: {1, 1}, api.NodeUnion: {1, 4}, api.NodeReduce: {1, 1}, api.NodeWindow: {1, 1}, api.NodeSink: {1, 1}}
	count, ok := inputs[n.Kind]
	if !ok {
		return api.ErrJobKind
	}
	good := len(n.In) >= count[0] && len(n.In) <= count[1]
	for _, in := range n.In {
		good = good && slices.Contains([]int{0, 1, 2, 3, 4, 5, 6, 7, 8, 9, 10, 11}[:len(l)], in) && l[in].Kind != api.NodeSink
	}
	if !good {
		return api.ErrJobIn
	}
	if !slices.Contains([]int{1, 2, 3, 4}, n.Par) {
		return api.ErrJobPar
	}
	zero := reflect.DeepEqual(n.E, api.Expr{})
	if map[int]bool{api.NodeMap: true, api.NodeFilter: true, api.NodeKey: true}[n.Kind] {
		zero = expr.Check(n.E) == api.OK
	}
	if !zero {
		return api.ErrJobExpr
	}
	aggs, wins := []int{0}, []int{0}
	if n.Kind == api.NodeReduce || n.Kind == api.NodeWindow {
		aggs = []int{api.AggSum, api.AggCount, api.AggMin, api.AggMax, api.AggXor}
	}
	if !slices.Contains(aggs, n.Agg) {
		return api.ErrJobAgg
	}
	sizes, slides := [2]int64{0, 0}, [2]int64{0, 0}
	if n.Kind == api.NodeWindow {
		wins, sizes = []int{1, 2, 3}, [2]int64{1, 1 << 36}
		if n.Win.Kind == api.WinSliding {
			slides = sizes
		}
	}
	if !slices.Contains(wins, n.Win.Kind) || n.Win.Size < sizes[0] || n.Win.Size > sizes[1] || n.Win.Slide < slides[0] || n.Win.Slide > slides[1] {
		return api.ErrJobWin
	}
	return api.OK
}

// plainWeight: way by way, over numbers without bounds.
func plainWeight(l []api.Node, i int) *big.Int {
	n := l[i]
	if n.Kind == api.NodeSource {
		return big.NewInt(1)
	}
	sum := new(big.Int)
	for _, in := range n.In {
		sum.Add(sum, plainWeight(l, in))
	}
	if n.Kind == api.NodeWindow && n.Win.Kind == api.WinSliding {
		by, rest := new(big.Int).QuoRem(big.NewInt(n.Win.Size), big.NewInt(n.Win.Slide), new(big.Int))
		sum.Mul(sum, by.Add(by, big.NewInt(int64(rest.Sign()))))
	}
	return sum
}

// plainCheck: the error, and the weights, where there are some.
func plainCheck(j api.Job) (api.Errno, []int) {
	if n := len(j.Nodes); n == 0 || n > 12 {
		return api.ErrJobSize, nil
	}
	for _, n := range j.Nodes {
		if e := plainNode(j.Nodes, n); e != api.OK {
			return e, nil
		}
	}
	for i := range j.Nodes {
		if reaches(j.Nodes, i, i, len(j.Nodes)) {
			return api.ErrJobCycle, nil
		}
	}
	var weights []int
	err, sinks := api.OK, 0
	for i, n := range j.Nodes {
		w := plainWeight(j.Nodes, i)
		if w.Cmp(big.NewInt(64)) > 0 {
			w, err = big.NewInt(65), api.ErrJobHeavy
		}
		weights = append(weights, int(w.Int64()))
		if n.Kind == api.NodeSink {
			sinks++
		}
	}
	if err == api.OK && sinks == 0 {
		err = api.ErrJobSize
	}
	return err, weights
}

// plainOrder: again and again the first node that has no place, and whose inputs all have theirs.
func plainOrder(j api.Job) []int {
	var order []int
	for {
		next := -1
		for i, n := range slices.Backward(j.Nodes) {
			waits := slices.ContainsFunc(n.In, func(in int) bool { return !slices.Contains(order, in) })
			if !waits && !slices.Contains(order, i) {
				next = i
			}
		}
		if next < 0 {
			return order
		}
		order = append(order, next)
	}
}

// someJob: of a few nodes, whose inputs stand ahead of them, but for a few; each fault comes rarely, so that all of them are met.
func someJob(r *rand.Rand) api.Job {
	l := make([]api.Node, 1+r.Intn(8))
	for i := range l {
		kind := 2 + r.Intn(7)
		if i == 0 || r.Intn(6) == 0 {
			kind = api.NodeSource
		}
		l[i] = node(kind)
		l[i].Par = 1 + r.Intn(4)
		if kind == api.NodeWindow && r.Intn(2) == 0 {
			l[i] = sliding(0, int64(1+r.Intn(80)), int64(1+r.Intn(20)))
		}
		l[i].In = someInputs(r, i, len(l), kind)
		if r.Intn(60) == 0 {
			faults()[r.Intn(6)](&l[i])
		}
	}
	j := api.Job{Nodes: l}
	if r.Intn(2) == 0 {
		j = backwards(j)
	}
	return j
}

func someInputs(r *rand.Rand, at, all, kind int) []int {
	n := 1
	switch kind {
	case api.NodeSource:
		return nil
	case api.NodeUnion:
		n = 1 + r.Intn(4)
	}
	in := make([]int, n)
	for k := range in {
		in[k] = r.Intn(at)
		if r.Intn(25) == 0 {
			in[k] = r.Intn(all+2) - 1
		}
	}
	return in
}

// someItem: nearly always one that logs may have.
func someItem(r *rand.Rand) api.Item {
	times := []int64{0, 1, -1, api.MaxTime, -api.MaxTime, 77}
	it := rec(times[r.Intn(len(times))])
	switch r.Intn(4) {
	case 0:
		it = mark(times[r.Intn(len(times))])
	case 1:
		it = mark(api.MaxMark)
	}
	switch r.Intn(100) {
	case 0:
		it.Kind = r.Intn(4)
	case 1:
		it.Mark += api.MaxTime
	case 2:
		it.Rec.Time += api.MaxTime
	}
	return it
}

func someLogs(r *rand.Rand, j api.Job) api.Logs {
	l := make(api.Logs, len(j.Nodes))
	for i, n := range j.Nodes {
		if n.Kind == api.NodeSource != (r.Intn(60) == 0) {
			l[i] = make([][]api.Item, max(0, min(n.Par, 5)))
		}
		for p := range l[i] {
			for range r.Intn(4) {
				l[i][p] = append(l[i][p], someItem(r))
			}
		}
	}
	if r.Intn(30) == 0 {
		l = append(l, nil)
	}
	return l
}

// plainLogs: whether they fit, whether they are whole, how many items.
func plainLogs(j api.Job, l api.Logs) (bool, bool, int) {
	fits, whole, n := len(l) == len(j.Nodes), true, 0
	for i, partitions := range l {
		want := 0
		if i < len(j.Nodes) && j.Nodes[i].Kind == api.NodeSource {
			want = j.Nodes[i].Par
		}
		fits = fits && len(partitions) == want
		for _, items := range partitions {
			ends := 0
			for _, it := range items {
				n++
				in := func(t int64) bool { return -1<<40 <= t && t <= 1<<40 }
				isRecord := it == api.Item{Kind: 1, Rec: it.Rec} && in(it.Rec.Time)
				isMark := it == api.Item{Kind: 2, Mark: it.Mark} && (in(it.Mark) || it.Mark == 1<<63-1)
				fits = fits && (isRecord || isMark)
				if it.Kind == 2 && it.Mark == 1<<63-1 {
					ends++
				}
			}
			whole = whole && ends > 0
		}
	}
	return fits, whole, n
}

// TestPlain: jobs and logs at random against a plain reckoning.
func TestPlain(t *testing.T) {
	r := rand.New(rand.NewSource(8))
	met := map[api.Errno]int{}
	for range 60000 {
		j := someJob(r)
		want, weights := plainCheck(j)
		met[want]++
		checks(t, "at random", j, want)
		weighs(t, "at random", j, weights...)
		orders(t, "at random", j, plainOrder(j)...)
		l := someLogs(r, j)
		fits, isWhole, n := plainLogs(j, l)
		logs(t, "at random", j, l, fits)
		whole(t, "at random", l, isWhole)
		if job.Items(l) != n {
			t.Errorf("P8.3: %d items, wanted %d", job.Items(l), n)
		}
		if !fits {
			met[api.ErrJobLogs]++
		}
		if t.Failed() {
			t.Fatalf("%+v %+v", j, l)
		}
	}
	for e := range 10 {
		if met[api.ErrJobSize+api.Errno(e)] < 100 {
			t.Errorf("the error %d was met %d times", 80+e, met[api.ErrJobSize+api.Errno(e)])
		}
	}
	if met[api.OK] < 5000 {
		t.Errorf("only %d jobs were taken", met[api.OK])
	}
}

// TestRuns: of a job that is taken all that running it asks for is there: a place for each node behind its inputs, a weight, no cycle, a sink.
func TestRuns(t *testing.T) {
	r := rand.New(rand.NewSource(84))
	for range 20000 {
		j := someJob(r)
		if job.Check(j) != api.OK {
			continue
		}
		order, weights := job.Order(j), job.Weights(j)
		if len(order) != len(j.Nodes) || len(weights) != len(j.Nodes) {
			t.Fatalf("P8.4: order %v, weights %v: %+v", order, weights, j)
		}
		for at, i := range order {
			for _, in := range j.Nodes[i].In {
				if slices.Index(order, in) >= at || slices.Index(order, in) < 0 {
					t.Fatalf("P8.4: %d isn't behind %d: %+v", i, in, j)
				}
			}
			if weights[i] < 1 || weights[i] > 64 {
				t.Fatalf("P8.4: weight %d: %+v", weights[i], j)
			}
		}
		if !slices.ContainsFunc(j.Nodes, func(n api.Node) bool { return n.Kind == api.NodeSink }) {
			t.Fatalf("P8.4: no sink: %+v", j)
		}
	}
}

// roomy: a copy of a list with something in the spare room behind it.
func roomy[T any](l []T, spare T) []T {
	return slices.Concat(l, []T{spare})[:len(l)]
}

func roomyExpr(e api.Expr) api.Expr {
	l := roomy(e.L, c(9))
	for i := range l {
		l[i] = roomyExpr(l[i])
	}
	e.L = l
	return e
}

func roomyJob(j api.Job) api.Job {
	l := roomy(j.Nodes, sink(3))
	for i := range l {
		l[i].In, l[i].E = roomy(l[i].In, 7), roomyExpr(l[i].E)
	}
	return api.Job{Nodes: l}
}

func roomyLogs(l api.Logs) api.Logs {
	l = roomy(l, nil)
	for i := range l {
		l[i] = roomy(l[i], nil)
		for p := range l[i] {
			l[i][p] = roomy(l[i][p], rec(9))
		}
	}
	return l
}

// spread: all lists with the spare room behind them.
func spread(j api.Job, l api.Logs) (api.Job, api.Logs) {
	wide := slices.Clone(j.Nodes[:cap(j.Nodes)])
	for i := range wide {
		wide[i].In, wide[i].E.L = wide[i].In[:cap(wide[i].In)], wide[i].E.L[:cap(wide[i].E.L)]
	}
	all := slices.Clone(l[:cap(l)])
	for i := range all {
		all[i] = slices.Clone(all[i][:cap(all[i])])
		for p := range all[i] {
			all[i][p] = all[i][p][:cap(all[i][p])]
		}
	}
	return api.Job{Nodes: wide}, all
}

// TestLeftAlone: what is handed in isn't changed, nor is the room behind it; what is answered is new, and the same again.
func TestLeftAlone(t *testing.T) {
	r := rand.New(rand.NewSource(3))
	for range 3000 {
		j := someJob(r)
		l := someLogs(r, j)
		handed, handedLogs := roomyJob(j), roomyLogs(l)
		before, beforeLogs := spread(roomyJob(j), roomyLogs(l))
		for range 2 {
			e, order, weights := job.Check(handed), job.Order(handed), job.Weights(handed)
			fits, isWhole, n := job.Logs(handed, handedLogs), job.Whole(handedLogs), job.Items(handedLogs)
			if e != job.Check(j) || fits != job.Logs(j, l) || isWhole != job.Whole(l) || n != job.Items(l) {
				t.Fatalf("another answer: %+v", j)
			}
			if !slices.Equal(order, job.Order(j)) || !slices.Equal(weights, job.Weights(j)) {
				t.Fatalf("another order, or other weights: %+v", j)
			}
			for _, l := range [][]int{order[:cap(order)], weights[:cap(weights)]} {
				for i := range l {
					l[i] = -99
				}
			}
		}
		after, afterLogs := spread(handed, handedLogs)
		if !reflect.DeepEqual(before, after) || !reflect.DeepEqual(beforeLogs, afterLogs) {
			t.Fatalf("it has changed: %+v", j)
		}
	}
}

// TestShared: expressions whose lists share memory, and stand for very many operators, end soon.
func TestShared(t *testing.T) {
	e := c(1)
	for range 2000 {
		e = api.Expr{Op: api.ExprAdd, L: []api.Expr{e, e}}
	}
	checks(t, "too large", around(with(node(api.NodeMap, 0), func(n *api.Node) { n.E = e })), api.ErrJobExpr)
	checks(t, "not zero", around(with(union(0), func(n *api.Node) { n.E = e })), api.ErrJobExpr)
	e = api.Expr{Op: api.ExprIf, L: slices.Repeat([]api.Expr{{Op: api.ExprKey}}, 3)}
	j := nodes(source(), node(api.NodeMap, 0), node(api.NodeKey, 1), sink(2))
	j.Nodes[1].E, j.Nodes[2].E = e, e
	checks(t, "shared by two nodes", j, api.OK)
}
