package cluster_test

import (
	"math/rand"
	"runtime"
	"slices"
	"testing"

	"leat/api"
	"leat/cluster"
	"leat/mean"
)

// spoil: all that hangs on a job and its logs gets other numbers, the spare room behind lists included.
func spoil(j api.Job, l api.Logs) {
	for i := range j.Nodes {
		n := &j.Nodes[i]
		for k := range n.In {
			n.In[k] = 99
		}
		spoilExpr(n.E)
		*n = api.Node{Kind: 77}
	}
	for _, partitions := range l {
		for k := range partitions {
			p := partitions[k][:cap(partitions[k])]
			for q := range p {
				p[q] = api.Item{Kind: 55}
			}
			partitions[k] = nil
		}
	}
	for i := range l {
		l[i] = nil
	}
}

func spoilExpr(e api.Expr) {
	for i := range e.L {
		spoilExpr(e.L[i])
		e.L[i] = api.Expr{Op: 33}
	}
}

// TestLeftAlone: what is handed in is neither kept nor changed.
func TestLeftAlone(t *testing.T) {
	for seed := range int64(100) {
		job := func() (api.Job, api.Logs) {
			r := rand.New(rand.NewSource(seed))
			j := someJob(r, 6)
			return j, someLogs(r, j, 12, true)
		}
		j, l := job()
		all := mean.All(j, l)
		spoiled, logs := job()
		s := someSettings(rand.New(rand.NewSource(seed)))
		c := cluster.New(spoiled, logs, s)
		spoil(spoiled, logs)
		other, _ := job()
		for range 40 {
			c.Round()
			do(c, ev(api.EvCrashTask, int(seed)%c.Tasks(), 0))
			rounds(c, 12)
		}
		ends(t, "DOC 3", c, j, l, s)
		for i, n := range other.Nodes {
			if n.Kind == api.NodeSink && !bags(c.Sink(i), all[i]) {
				t.Fatalf("DOC 3: seed %d: %v, wanted %v", seed, c.Sink(i), all[i])
			}
		}
		again, same := job()
		cluster.New(again, same, s)
		cluster.Bound(again, same, s)
		cluster.Run(again, same, s, make([]byte, 300))
		if !slices.EqualFunc(mean.All(again, same), all, bags) {
			t.Fatalf("DOC 3: seed %d: it is changed", seed)
		}
	}
}

func fill[T any](l []T, x T) {
	l = l[:cap(l)]
	for i := range l {
		l[i] = x
	}
}

// TestAnswersApart: what is answered is the caller's.
func TestAnswersApart(t *testing.T) {
	j := jobOf(source(2), windowed(api.Window{Kind: api.WinTumbling, Size: 4}, api.AggSum, 2, 0), sink(2, 1), sink(1, 0))
	l := api.Logs{{{item(1, 1, 1), item(2, 3, 2), mark(3), item(1, 5, 4)}, {item(2, 2, 8), mark(4), item(1, 7, 16)}}, nil, nil, nil}
	c := cluster.New(j, l, api.Settings{Interval: 1, Keep: 2, Timeout: 50})
	rounds(c, 100)
	want := look(c, 4)
	got := look(c, 4)
	for i := range got.sinks {
		fill(got.sinks[i], rec(9, 9, 9))
	}
	for k := range got.durable {
		for i := range 4 {
			fill(got.offsets[k][i], 99)
			fill(got.upto[k][i], rec(9, 9, 9))
			fill(got.panes[k][i], api.Pane{Key: 9})
		}
		fill(got.offsets[k], nil)
	}
	fill(got.durable, 99)
	if now := look(c, 4); !alikeLooks(now, want) {
		t.Errorf("DOC 3: %+v, wanted %+v", now, want)
	}
	if len(want.durable) != 2 || len(want.sinks[2]) == 0 || len(want.panes[1][1]) == 0 {
		t.Errorf("%+v", want)
	}
	_, a := cluster.Run(j, l, api.Settings{}, nil)
	is(t, "P19.5: Run", len(a), 4)
}

func inUse() int {
	runtime.GC()
	runtime.GC()
	var m runtime.MemStats
	runtime.ReadMemStats(&m)
	return int(m.HeapAlloc)
}

// TestKept: however long it goes on, what is kept doesn't grow.
func TestKept(t *testing.T) {
	j := jobOf(source(2), windowed(api.Window{Kind: api.WinTumbling, Size: 4}, api.AggSum, 2, 0), sink(2, 1), sink(1, 0))
	l := api.Logs{{{item(1, 1, 1), item(2, 3, 2), mark(3), item(1, 5, 4)}, {item(2, 2, 8), mark(4), item(1, 7, 16)}}, nil, nil, nil}
	for over := range 3 {
		c := cluster.New(j, l, api.Settings{Interval: 1, Keep: 2, Over: over, Timeout: 20})
		life := func(n int) {
			for i := range n {
				c.Round()
				switch i % 101 {
				case 20:
					do(c, ev(api.EvCrashTask, i%c.Tasks(), 0))
				case 50:
					do(c, ev(api.EvCrashCoord, 0, 0))
				case 80:
					do(c, ev(api.EvCrashDisk, 5, 5))
				case 100:
					do(c, ev(api.EvCut, i%9, 0))
				}
			}
		}
		life(2000)
		before := inUse()
		life(20000)
		if grown := inUse() - before; grown > 1<<16 {
			t.Errorf("LANGUAGE 8: %d bytes are kept", grown)
		}
		is(t, "P19.4", c.Status(), api.Running)
	}
}

// TestLetGo: what is Finished needs no items, frames or tasks any more.
func TestLetGo(t *testing.T) {
	j, l := jobOf(source(4), by(api.NodeFilter, x(api.ExprLt, x(api.ExprVal), c(1)), 4, 0), sink(1, 1)), make(api.Logs, 3)
	for range 4 {
		var p []api.Item
		for i := range int64(api.MaxItems - 1) {
			p = append(p, item(i, i, 5))
		}
		l[0] = append(l[0], append(p, mark(api.MaxMark)))
	}
	s := api.Settings{Interval: 100, Credits: 64}
	before := inUse()
	k := cluster.New(j, l, s)
	ends(t, "P30.6", k, j, l, s)
	if kept := inUse() - before; kept > 1<<16 {
		t.Errorf("LANGUAGE 8: %d bytes are kept", kept)
	}
	is(t, "P19.3: Tasks", k.Tasks(), 9)
	is(t, "P19.3: Channels", k.Channels(), 8)
	runtime.KeepAlive(l)
}

// TestMany: full partitions, and windows that tell more than they are told.
func TestMany(t *testing.T) {
	j := jobOf(source(4), windowed(api.Window{Kind: api.WinSliding, Size: 40, Slide: 10}, api.AggSum, 4, 0), reduce(api.AggCount, 4, 1), sink(2, 2), sink(4, 1))
	l := make(api.Logs, 5)
	for p := range int64(4) {
		var items []api.Item
		for i := range int64(api.MaxItems/2 - 1) {
			items = append(items, item(i*p%100, i, 1), mark(i-20))
		}
		l[0] = append(l[0], append(items, mark(api.MaxMark)))
	}
	all := mean.All(j, l)
	for over := range 3 {
		s := api.Settings{Credits: 8, Interval: 100, Timeout: 20, Over: over, Keep: 100}
		k := cluster.New(j, l, s)
		ends(t, "P30.6: many", k, j, l, s)
		if !bags(k.Sink(3), all[3]) || !bags(k.Sink(4), all[4]) {
			t.Errorf("P30.6: many: %d and %d, wanted %d and %d", len(k.Sink(3)), len(k.Sink(4)), len(all[3]), len(all[4]))
		}
	}
}
