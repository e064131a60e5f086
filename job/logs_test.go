package job_test

import (
	"math"
	"slices"
	"strconv"
	"testing"

	"leat/api"
	"leat/job"
)

func rec(at int64) api.Item {
	return api.Item{Kind: api.ItemRecord, Rec: api.Record{Key: 1, Time: at, Val: 2}}
}

func mark(m int64) api.Item { return api.Item{Kind: api.ItemMark, Mark: m} }

// two: a source with two parts, and all kinds of nodes behind it.
func two() api.Job {
	j := nodes(source(), node(api.NodeMap, 0), union(1, 0), node(api.NodeReduce, 2), node(api.NodeWindow, 2), node(api.NodeKey, 2), node(api.NodeFilter, 2), sink(3))
	for i := range j.Nodes {
		j.Nodes[i].Par = 2
	}
	return j
}

// of: logs of two with these items in both of the source's partitions.
func of(first, second []api.Item) api.Logs {
	l := make(api.Logs, 8)
	l[0] = [][]api.Item{first, second}
	return l
}

func logs(t *testing.T, what string, j api.Job, l api.Logs, fits bool) {
	t.Helper()
	want := api.OK
	if !fits {
		want = api.ErrJobLogs
	}
	if got := job.Logs(j, l); got != want {
		t.Errorf("P8.3: %s: %v, wanted %v", what, got, want)
	}
}

func TestEntries(t *testing.T) {
	for n := range 12 {
		l := slices.Repeat(api.Logs{nil}, n)
		if n > 0 {
			l[0] = [][]api.Item{nil, nil}
		}
		logs(t, strconv.Itoa(n)+" entries for 8 nodes", two(), l, n == 8)
	}
	logs(t, "nil for nodes", two(), nil, false)
	logs(t, "none for none", api.Job{}, nil, true)
	logs(t, "an empty list for none", api.Job{Nodes: []api.Node{}}, api.Logs{}, true)
	logs(t, "one for none", api.Job{}, api.Logs{nil}, false)
}

func TestPartitions(t *testing.T) {
	for par := 1; par <= 4; par++ {
		for n := range 7 {
			j := nodes(with(source(), func(s *api.Node) { s.Par = par }), sink(0))
			l := api.Logs{make([][]api.Item, n), nil}
			what := strconv.Itoa(n) + " partitions of a source with parallelism " + strconv.Itoa(par)
			logs(t, what, j, l, n == par)
			logs(t, "whose items are empty lists: "+what, j, api.Logs{slices.Repeat([][]api.Item{{}}, n), {}}, n == par)
		}
	}
	for at := 1; at < 8; at++ {
		for n := range 4 {
			l := of(nil, nil)
			l[at] = make([][]api.Item, n)
			logs(t, strconv.Itoa(n)+" partitions of node "+strconv.Itoa(at), two(), l, n == 0)
		}
	}
	j := nodes(sink(1), source(), with(source(), func(s *api.Node) { s.Par = 3 }))
	logs(t, "two sources", j, api.Logs{nil, {nil}, {nil, nil, nil}}, true)
	logs(t, "two sources, one too many", j, api.Logs{nil, {nil}, {nil, nil, nil, nil}}, false)
	logs(t, "two sources, the other way round", j, api.Logs{nil, {nil, nil, nil}, {nil}}, false)
	logs(t, "two sources, moved", j, api.Logs{{nil}, {nil, nil, nil}, nil}, false)
}

// TestLogsOfWrong: of a job that Check refuses nothing more is asked.
func TestLogsOfWrong(t *testing.T) {
	logs(t, "a node that is none", nodes(api.Node{Par: 1}), api.Logs{nil}, true)
	logs(t, "a node that is none, with a partition", nodes(api.Node{Par: 1}), api.Logs{{nil}}, false)
	logs(t, "a source with parallelism 0", nodes(api.Node{Kind: api.NodeSource}), api.Logs{nil}, true)
	logs(t, "a source with parallelism 6", nodes(api.Node{Kind: api.NodeSource, Par: 6}), api.Logs{make([][]api.Item, 6)}, true)
	logs(t, "a source with parallelism -1", nodes(api.Node{Kind: api.NodeSource, Par: -1}), api.Logs{{nil}}, false)
	logs(t, "a source with parallelism -1 and none", nodes(api.Node{Kind: api.NodeSource, Par: -1}), api.Logs{nil}, false)
	logs(t, "a cycle", nodes(union(0)), api.Logs{nil}, true)
	logs(t, "thirteen nodes", api.Job{Nodes: slices.Repeat([]api.Node{source()}, 13)}, slices.Repeat(api.Logs{{nil}}, 13), true)
}

// TestMaxItems: in each partition, of each kind of items.
func TestMaxItems(t *testing.T) {
	for _, it := range []api.Item{rec(5), mark(5), mark(api.MaxMark)} {
		for _, n := range []int{0, 1, 4095, 4096, 4097, 8192} {
			l := slices.Repeat([]api.Item{it}, n)
			what := strconv.Itoa(n) + " items"
			logs(t, what, two(), of(l, nil), n <= 4096)
			logs(t, what+" in the second partition", two(), of(nil, l), n <= 4096)
			logs(t, what+" in both", two(), of(l, l), n <= 4096)
		}
	}
	if api.MaxItems != 4096 || api.MaxTime != 1<<40 || api.MaxMark != math.MaxInt64 {
		t.Error("the limits")
	}
}

// placed: the item alone, first, last, in the midst, in either partition.
func placed(t *testing.T, what string, it api.Item, fits bool) {
	t.Helper()
	for _, l := range [][]api.Item{{it}, {it, rec(1)}, {mark(4), it}, {rec(1), it, mark(api.MaxMark)}, {mark(api.MaxMark), it, rec(7)}} {
		logs(t, what, two(), of(l, nil), fits)
		logs(t, what+", in the second partition", two(), of([]api.Item{mark(1)}, l), fits)
	}
}

func TestItemKinds(t *testing.T) {
	for _, kind := range append([]int{0, 1, 2, 3, 4}, strange...) {
		placed(t, "kind "+strconv.Itoa(kind), api.Item{Kind: kind}, kind == 1 || kind == 2)
		placed(t, "a record, kind "+strconv.Itoa(kind), api.Item{Kind: kind, Rec: api.Record{Key: 1}}, kind == 1)
		placed(t, "a watermark, kind "+strconv.Itoa(kind), api.Item{Kind: kind, Mark: 1}, kind == 2)
	}
	for _, r := range []api.Record{{Key: 1}, {Time: 1}, {Val: 1}, {Key: -1}, {Time: -1}, {Val: -1}, {Key: 1 << 32}, {Time: 1 << 32}, {Val: 1 << 32}} {
		placed(t, "a record", api.Item{Kind: api.ItemRecord, Rec: r}, true)
		placed(t, "a record with a watermark", api.Item{Kind: api.ItemRecord, Rec: r, Mark: 3}, false)
		placed(t, "a record with MaxMark", api.Item{Kind: api.ItemRecord, Rec: r, Mark: api.MaxMark}, false)
		placed(t, "a watermark with a record", api.Item{Kind: api.ItemMark, Rec: r, Mark: 3}, false)
		placed(t, "MaxMark with a record", api.Item{Kind: api.ItemMark, Rec: r, Mark: api.MaxMark}, false)
	}
}

func TestTimes(t *testing.T) {
	const most = 1 << 40
	for _, at := range []int64{math.MinInt64, math.MinInt64 + 1, -most << 1, -most - 1, -most, -most + 1, -1, 0, 1, most - 1, most, most + 1, most << 1, math.MaxInt64 - 1, math.MaxInt64} {
		fits := at >= -most && at <= most
		what := strconv.FormatInt(at, 10)
		placed(t, "a record's time "+what, rec(at), fits)
		placed(t, "a watermark "+what, mark(at), fits || at == math.MaxInt64)
		placed(t, "a key and a value "+what, api.Item{Kind: api.ItemRecord, Rec: api.Record{Key: at, Val: at}}, true)
	}
}

func whole(t *testing.T, what string, l api.Logs, want bool) {
	t.Helper()
	if job.Whole(l) != want {
		t.Errorf("P8.3: %s: whole isn't %v", what, want)
	}
}

func TestWhole(t *testing.T) {
	end := mark(api.MaxMark)
	whole(t, "nil", nil, true)
	whole(t, "no partition", api.Logs{nil, {}}, true)
	whole(t, "an empty partition", api.Logs{{nil}}, false)
	whole(t, "the end alone", api.Logs{{{end}}}, true)
	whole(t, "the end first", api.Logs{{{end, rec(1), mark(3)}}}, true)
	whole(t, "the end twice", api.Logs{{{end, rec(1), end}}}, true)
	whole(t, "the end last", api.Logs{{{rec(1), mark(3), end}}}, true)
	whole(t, "one ahead of the end", api.Logs{{{mark(api.MaxMark - 1), mark(api.MaxTime)}}}, false)
	whole(t, "the least watermark", api.Logs{{{mark(api.MinMark)}}}, false)
	whole(t, "a record's mark", api.Logs{{{{Kind: api.ItemRecord, Mark: api.MaxMark}}}}, false)
	whole(t, "a record's time", api.Logs{{{rec(api.MaxMark)}}}, false)
	whole(t, "no item's mark", api.Logs{{{{Mark: api.MaxMark}, {Kind: 3, Mark: api.MaxMark}}}}, false)
	whole(t, "two partitions", api.Logs{{{end}, {rec(1), end}}}, true)
	whole(t, "the first one not", api.Logs{{{rec(1)}, {end, end}}}, false)
	whole(t, "the second one not", api.Logs{{{end, end}, {rec(1)}}}, false)
	whole(t, "two nodes", api.Logs{nil, {{end}}, nil, {{end}}}, true)
	whole(t, "the first node not", api.Logs{nil, {{}}, nil, {{end}}}, false)
	whole(t, "the second node not", api.Logs{nil, {{end}}, nil, {{}}}, false)
}

func TestItems(t *testing.T) {
	for _, y := range []struct {
		l    api.Logs
		want int
	}{
		{nil, 0}, {api.Logs{}, 0}, {api.Logs{nil, {}, {nil}, {{}}}, 0}, {api.Logs{{{rec(1)}}}, 1}, {api.Logs{{{rec(1), mark(1), {}}}}, 3},
		{api.Logs{{{rec(1)}, {rec(1), rec(1)}}, nil, {nil, {mark(1), mark(1), mark(1), mark(1)}}}, 7},
		{api.Logs{{make([]api.Item, 5000)}, {make([]api.Item, 4096), make([]api.Item, 4097)}}, 13193},
	} {
		if got := job.Items(y.l); got != y.want {
			t.Errorf("P8.3: %d items, wanted %d", got, y.want)
		}
	}
}
