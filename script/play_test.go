package script_test

import (
	"cmp"
	"fmt"
	"math"
	"math/rand"
	"reflect"
	"slices"
	"strings"
	"testing"

	"leat/api"
	"leat/cluster"
	"leat/job"
	"leat/mean"
	"leat/script"
)

func none(j api.Job) api.Logs { return make(api.Logs, len(j.Nodes)) }

// pipe: a source, and a sink of as many parts.
func pipe(parts ...[]api.Item) (api.Job, api.Logs) {
	return jobOf(node(api.NodeSource, len(parts)), node(api.NodeSink, len(parts), 0)), api.Logs{parts, nil}
}

func TestFinished(t *testing.T) {
	j, l := pipe([]api.Item{mark(api.MaxMark)})
	is(t, "P20.3", script.Play(j, l, api.Settings{}, nil), "finished\nsink 1\n")
	j, l = pipe([]api.Item{item(2, 5, 1), item(2, 5, -1), item(-3, 9, 0), item(2, 4, 7), mark(api.MaxMark)}, []api.Item{item(math.MinInt64, -api.MaxTime, math.MaxInt64), mark(api.MaxMark), item(1, 1, 1), item(2, 5, -1)})
	is(t, "P20.3: late ones", script.Play(j, l, api.Settings{}, nil), "finished\nsink 1 (-9223372036854775808 -1099511627776 9223372036854775807) (-3 9 0) (2 4 7) (2 5 -1) (2 5 1)\n")
	l[0][1] = []api.Item{item(2, 5, -1), mark(api.MaxMark)}
	is(t, "P20.3: one as often as it is", script.Play(j, l, api.Settings{}, nil), "finished\nsink 1 (-3 9 0) (2 4 7) (2 5 -1) (2 5 -1) (2 5 1)\n")
}

// TestSinks: each of them, by its number, wherever it stands.
func TestSinks(t *testing.T) {
	j := jobOf(node(api.NodeSink, 2, 3), node(api.NodeSink, 1, 2), by(api.NodeMap, c(0), 2, 3), node(api.NodeSource, 1), node(api.NodeSink, 1, 2))
	l := none(j)
	l[3] = [][]api.Item{{item(1, 2, 3), item(0, 2, 3), mark(api.MaxMark)}}
	is(t, "P20.3", script.Play(j, l, api.Settings{Over: 1}, nil), "finished\nsink 0 (0 2 3) (1 2 3)\nsink 1 (0 2 0) (1 2 0)\nsink 4 (0 2 0) (1 2 0)\n")
}

func TestRunning(t *testing.T) {
	j, l := pipe(nil)
	is(t, "P20.3: no items", script.Play(j, l, api.Settings{}, nil), "running\nsink 1\n")
	j, l = pipe([]api.Item{item(1, 2, 3), mark(7)})
	is(t, "P20.3: not Whole", script.Play(j, l, api.Settings{}, nil), "running\nsink 1 (1 2 3)\n")
	j, l = pipe([]api.Item{item(1, 2, 3), mark(api.MaxMark)})
	is(t, "P20.3: no room", script.Play(j, l, api.Settings{Room: 1}, nil), "running\nsink 1\n")
	is(t, "P20.3: no room any more", script.Play(j, l, api.Settings{}, []byte{api.EvRoom, 3, 0}), "running\nsink 1\n")
	is(t, "P20.3: room again", script.Play(j, l, api.Settings{Room: 1}, []byte{api.EvTick, 0, 0, api.EvRoom, 0, 0}), "finished\nsink 1 (1 2 3)\n")
}

func TestRejected(t *testing.T) {
	j, l := pipe([]api.Item{item(1, 2, 3), mark(api.MaxMark)})
	sinkless := jobOf(node(api.NodeSource, 1))
	heavy := jobOf(j.Nodes[0], windowed(api.Window{Kind: api.WinSliding, Size: 65, Slide: 1}, api.AggSum, 1, 0), node(api.NodeSink, 1, 1))
	for _, w := range []struct {
		want string
		j    api.Job
		l    api.Logs
	}{
		{"rejected 80\n", api.Job{}, nil},
		{"rejected 80\n", sinkless, l[:1]},
		{"rejected 81\nsink 1\n", jobOf(node(9, 1), j.Nodes[1]), l},
		{"rejected 82\nsink 0\nsink 1\n", jobOf(node(api.NodeSink, 1), j.Nodes[1]), l},
		{"rejected 83\nsink 2\n", jobOf(node(api.NodeUnion, 1, 1), node(api.NodeUnion, 1, 0), node(api.NodeSink, 1, 1)), none(heavy)},
		{"rejected 84\nsink 1\n", jobOf(node(api.NodeSource, 5), j.Nodes[1]), l},
		{"rejected 85\nsink 2\n", jobOf(j.Nodes[0], by(api.NodeMap, deep(9), 1, 0), node(api.NodeSink, 1, 1)), none(heavy)},
		{"rejected 86\nsink 2\n", jobOf(j.Nodes[0], reduce(6, 1, 0), node(api.NodeSink, 1, 1)), none(heavy)},
		{"rejected 87\nsink 2\n", jobOf(j.Nodes[0], windowed(api.Window{}, api.AggSum, 1, 0), node(api.NodeSink, 1, 1)), none(heavy)},
		{"rejected 88\nsink 2\n", heavy, none(heavy)},
		{"rejected 89\nsink 1\n", j, nil},
		{"rejected 89\nsink 1\n", j, none(j)},
		{"rejected 89\nsink 1\n", j, l[:1]},
		{"rejected 80\n" + "sink 0\nsink 1\nsink 2\nsink 3\nsink 4\nsink 5\nsink 6\nsink 7\nsink 8\nsink 9\nsink 10\nsink 11\nsink 12\n", api.Job{Nodes: slices.Repeat(j.Nodes[1:], 13)}, l},
	} {
		is(t, "P20.3", script.Play(w.j, w.l, api.Settings{}, nil), w.want)
		is(t, "P20.3: with events", script.Play(w.j, w.l, api.Settings{Interval: 1, Room: 5}, slices.Repeat([]byte{4, 0, 0, 0, 0, 0}, 50)), w.want)
	}
}

// byAll: records by all that they tell.
func byAll(a, b api.Record) int {
	return cmp.Or(cmp.Compare(a.Key, b.Key), cmp.Compare(a.Time, b.Time), cmp.Compare(a.Val, b.Val))
}

// plainText: of each sink what is told of it.
func plainText(j api.Job, status string, sinks func(node int) []api.Record) string {
	s := status + "\n"
	for i, n := range j.Nodes {
		if n.Kind == api.NodeSink {
			s += fmt.Sprint("sink ", i)
			for _, r := range slices.SortedFunc(slices.Values(sinks(i)), byAll) {
				s += fmt.Sprintf(" (%d %d %d)", r.Key, r.Time, r.Val)
			}
			s += "\n"
		}
	}
	return s
}

// plainPlay: as the chapter tells it, each of the Rounds.
func plainPlay(j api.Job, l api.Logs, s api.Settings, b []byte) string {
	k := cluster.New(j, l, s)
	for ; len(b) > 2; b = b[3:] {
		k.Do(ev(int(b[0])%10, int(b[1]), int(b[2])))
	}
	for range cluster.Bound(j, l, s) {
		k.Round()
	}
	status := []string{"running", "finished", fmt.Sprint("rejected ", int(k.Why()))}[k.Status()]
	return plainText(j, status, k.Sink)
}

// TestPlainPlay: any life is told as New, Do and Rounds make it.
func TestPlainPlay(t *testing.T) {
	for i, j := range good() {
		statuses := map[string]int{}
		for seed := range int64(20) {
			r := rand.New(rand.NewSource(seed))
			l, s, b := someLogs(r, j, 4, seed%3 != 0), someSettings(r), someScript(r, r.Intn(300))
			got := script.Play(j, l, s, b)
			is(t, fmt.Sprintf("P30.11: job %d, seed %d", i, seed), got, plainPlay(j, l, s, b))
			is(t, "P30.10", script.Play(j, l, s, b), got)
			statuses[strings.Fields(got)[0]]++
		}
		if statuses["finished"] < 4 || statuses["running"] < 4 {
			t.Errorf("job %d: %v", i, statuses)
		}
	}
}

// TestPlainRun: what ends within its script is told as Run tells it; what goes on has at least what Run tells.
func TestPlainRun(t *testing.T) {
	finished := 0
	r := rand.New(rand.NewSource(3))
	for range 150 {
		j := jobOf(node(api.NodeSource, 1+r.Intn(2)), node(api.NodeSink, 1+r.Intn(2), 0))
		l, s, b := someLogs(r, j, 2, true), api.Settings{Credits: 4, Interval: 1}, someScript(r, r.Intn(4000))
		status, out := cluster.Run(j, l, s, b)
		got := script.Play(j, l, s, b)
		sinks := func(node int) []api.Record { return out[node] }
		if status == api.Finished {
			finished++
			is(t, "P30.11: Run", got, plainText(j, "finished", sinks))
		}
		for i, all := range mean.All(j, l) {
			if strings.HasPrefix(got, "finished") && !mean.Within(out[i], all) {
				t.Errorf("P30.1: %v, of %v", out[i], all)
			}
		}
	}
	if finished < 20 || finished > 130 {
		t.Errorf("%d are finished by their scripts", finished)
	}
}

// TestMeaning: with room again, behind any script each sink has the meaning; of what isn't Whole, all that comes of its items.
func TestMeaning(t *testing.T) {
	for i, j := range good() {
		for seed := range int64(60) {
			r := rand.New(rand.NewSource(1000 + seed))
			whole := seed%2 == 0
			l, s := someLogs(r, j, 5, whole), someSettings(r)
			b := append(script.Bytes(script.Events(someScript(r, r.Intn(400)))), api.EvRoom, 0, 0, api.EvCut, 63, 0)
			all, status := mean.All(j, l), "finished"
			if !whole {
				all, status = mean.Cut(j, l, nil), "running"
			}
			is(t, fmt.Sprintf("P30.6, P30.12: job %d, seed %d", i, seed), script.Play(j, l, s, b), plainText(j, status, func(node int) []api.Record { return all[node] }))
		}
	}
}

// TestTotal: jobs and logs that mean nothing.
func TestTotal(t *testing.T) {
	r := rand.New(rand.NewSource(4))
	for range 1000 {
		j := oddJob(r)
		l := someLogs(r, good()[r.Intn(5)], 3, true)
		want := plainText(j, fmt.Sprint("rejected ", int(job.Check(j))), func(int) []api.Record { return nil })
		is(t, "P30.9", script.Play(j, l, someSettings(r), someScript(r, 20)), want)
	}
	j := jobOf(node(api.NodeSource, 1), by(api.NodeMap, deep(100000), 1, 0), node(api.NodeSink, 1, 1))
	is(t, "P30.9", script.Play(j, none(j), api.Settings{}, nil), "rejected 85\nsink 2\n")
	odd := []int{math.MinInt, -1, 0, 1, 2, 3, 65, math.MaxInt}
	j, l := pipe([]api.Item{item(1, 2, 3), mark(api.MaxMark)})
	for range 300 {
		at := func() int { return odd[r.Intn(len(odd))] }
		s := api.Settings{Credits: at(), Interval: min(at(), 50), Timeout: min(at(), 50), Over: at(), Keep: at()}
		is(t, "P30.7", script.Play(j, l, s, nil), "finished\nsink 1 (1 2 3)\n")
	}
}

// told: all of it, with the room behind lists.
func told(v reflect.Value) string {
	var l []string
	switch v.Kind() {
	case reflect.Slice:
		v = v.Slice(0, v.Cap())
		for i := range v.Len() {
			l = append(l, told(v.Index(i)))
		}
	case reflect.Struct:
		for i := range v.NumField() {
			l = append(l, told(v.Field(i)))
		}
	default:
		return fmt.Sprint(v.Interface())
	}
	return "[" + strings.Join(l, " ") + "]"
}

// roomy: with something behind it.
func roomy[T any](l []T, spare T) []T { return append(slices.Clone(l), spare)[:len(l)] }

// TestPlayLeftAlone: what is handed in stays, the room behind it, too.
func TestPlayLeftAlone(t *testing.T) {
	r := rand.New(rand.NewSource(5))
	for _, j := range good() {
		l := roomy(someLogs(r, j, 9, r.Intn(2) == 0), [][]api.Item{{item(9, 9, 9)}})
		for i := range l {
			for p := range l[i] {
				l[i][p] = roomy(l[i][p], item(8, 8, 8))
			}
		}
		j.Nodes = roomy(j.Nodes, node(7, 7, 7))
		for i, n := range j.Nodes {
			j.Nodes[i].In, j.Nodes[i].E.L = roomy(n.In, 6), roomy(n.E.L, c(6))
		}
		b := roomy(someScript(r, 50), 5)
		before := told(reflect.ValueOf(j)) + told(reflect.ValueOf(l)) + told(reflect.ValueOf(b))
		script.Job(j)
		script.Play(j, l, api.Settings{}, b)
		is(t, "DOC 3", told(reflect.ValueOf(j))+told(reflect.ValueOf(l))+told(reflect.ValueOf(b)), before)
	}
}

// TestMuch: full partitions, whose Bound is more Rounds than anybody waits for, where nothing comes any more.
func TestMuch(t *testing.T) {
	j := jobOf(node(api.NodeSource, 4), node(api.NodeSource, 4), node(api.NodeSource, 4), node(api.NodeUnion, 4, 0, 1, 2), reduce(api.AggSum, 4, 3), node(api.NodeSink, 4, 3), node(api.NodeSink, 1, 4))
	for _, w := range []struct {
		end    int64
		sums   int
		status string
	}{{api.MaxMark, 50, "finished\n"}, {5, 0, "running\n"}} {
		l := none(j)
		for source := range 3 {
			for part := range int64(4) {
				var items []api.Item
				for i := range int64(api.MaxItems - 1) {
					items = append(items, item(i%50, 10*part+i, 1))
				}
				l[source] = append(l[source], append(items, mark(w.end)))
			}
		}
		got := script.Play(j, l, api.Settings{Credits: 16, Interval: 500, Timeout: 1000}, nil)
		is(t, "P20.3: much", strings.Count(got, "("), 12*(api.MaxItems-1)+w.sums)
		is(t, "P20.3: much", got[:len(w.status)], w.status)
	}
}
