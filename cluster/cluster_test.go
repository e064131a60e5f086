package cluster_test

import (
	"math"
	"math/rand"
	"slices"
	"testing"

	"leat/api"
	"leat/cluster"
	"leat/job"
	"leat/mean"
	"leat/plan"
)

func TestExample(t *testing.T) {
	j, l := line()
	c := cluster.New(j, l, api.Settings{})
	ends(t, "example", c, j, l, api.Settings{})
	same(t, "example", c.Sink(1), []api.Record{rec(1, 1, 1), rec(2, 2, 2), rec(1, 3, 3)})
}

// TestReadme: what README.md tells of a cluster.
func TestReadme(t *testing.T) {
	j := api.Job{Nodes: []api.Node{
		{Kind: api.NodeSource, Par: 1},
		{Kind: api.NodeWindow, In: []int{0}, Par: 2, Agg: api.AggSum, Win: api.Window{Kind: api.WinTumbling, Size: 10}},
		{Kind: api.NodeSink, In: []int{1}, Par: 1},
	}}
	l := api.Logs{{{
		{Kind: api.ItemRecord, Rec: api.Record{Key: 1, Time: 5, Val: 2}},
		{Kind: api.ItemRecord, Rec: api.Record{Key: 1, Time: 7, Val: 3}},
		{Kind: api.ItemMark, Mark: api.MaxMark},
	}}, nil, nil}
	s := api.Settings{Credits: 4, Interval: 5, Timeout: 20, Over: 2}
	c := cluster.New(j, l, s)
	for range 6 {
		c.Round()
	}
	c.Do(api.Event{Kind: api.EvCrashTask, A: 1})
	c.Do(api.Event{Kind: api.EvCrashCoord})
	for n := 0; n < cluster.Bound(j, l, s) && c.Status() == api.Running; n++ {
		c.Round()
	}
	same(t, "README", c.Sink(2), []api.Record{rec(1, 9, 5)})
	is(t, "README", c.Epoch(), 2)
	is(t, "README", c.Status(), api.Finished)
}

func TestNew(t *testing.T) {
	r := rand.New(rand.NewSource(1))
	for range 50 {
		j := someJob(r, 8)
		c := cluster.New(j, someLogs(r, j, 5, r.Intn(2) == 0), someSettings(r))
		is(t, "P19.1: Status", c.Status(), api.Running)
		is(t, "P19.1: Why", c.Why(), api.OK)
		is(t, "P19.1: Epoch", c.Epoch(), 1)
		p := plan.Make(j)
		is(t, "P19.1: Tasks", c.Tasks(), len(p.Tasks))
		is(t, "P19.1: Channels", c.Channels(), len(p.Channels))
		is(t, "P19.1: Most", c.Most(), 0)
		same(t, "P19.1: Durable", c.Durable(), nil)
		for i := range j.Nodes {
			same(t, "P19.1: Sink", c.Sink(i), nil)
		}
	}
}

// everything: events of all kinds, named and not.
func everything() []api.Event {
	var l []api.Event
	for kind := -1; kind <= api.EvCut+1; kind++ {
		for _, a := range []int{0, 1, -1, 2, 64, math.MaxInt, math.MinInt} {
			for _, b := range []int{0, 1, -1, math.MaxInt, math.MinInt} {
				l = append(l, ev(kind, a, b))
			}
		}
	}
	return append(l, ev(math.MinInt, 0, 0), ev(math.MaxInt, 0, 0))
}

func TestRejected(t *testing.T) {
	good, logs := line()
	two := jobOf(source(1), node(0, 1, 0), sink(1, 0))
	deep := x(api.ExprVal)
	for range 100000 {
		deep = x(api.ExprAdd, deep, deep)
	}
	for _, w := range []struct {
		j   api.Job
		l   api.Logs
		why api.Errno
	}{
		{api.Job{}, nil, api.ErrJobSize},
		{api.Job{}, logs, api.ErrJobSize},
		{two, logs, api.ErrJobKind},
		{jobOf(source(1), sink(5, 0)), logs, api.ErrJobPar},
		{jobOf(source(1), sink(1, 1)), logs, api.ErrJobIn},
		{jobOf(source(1), node(api.NodeUnion, 1, 1), sink(1, 0)), logs, api.ErrJobCycle},
		{jobOf(source(1), by(api.NodeMap, deep, 1, 0), sink(1, 1)), logs, api.ErrJobExpr},
		{good, nil, api.ErrJobLogs},
		{good, api.Logs{nil, nil}, api.ErrJobLogs},
		{good, api.Logs{{{mark(api.MinMark)}}, nil}, api.ErrJobLogs},
	} {
		c := cluster.New(w.j, w.l, api.Settings{Credits: 1, Interval: 1, Timeout: 1, Over: 2})
		none := looked{status: api.Rejected, why: w.why, sinks: make([][]api.Record, 3)}
		for range 3 {
			if l := look(c, 3); !alikeLooks(l, none) {
				t.Errorf("P19.1: %v: %+v", w.why, l)
			}
			for _, n := range []int{-1, 0, 1, 2} {
				if len(c.Offsets(uint64(n)))+len(c.Upto(n, 1))+len(c.Panes(n, 1))+len(c.Panes(n, 0)) > 0 || c.Over(uint64(n)) {
					t.Errorf("P19.1: %v: something of checkpoint %d", w.why, n)
				}
			}
			do(c, everything()...)
			rounds(c, 3)
		}
		is(t, "P19.5: Bound", cluster.Bound(w.j, w.l, api.Settings{}), 0)
		s, out := cluster.Run(w.j, w.l, api.Settings{}, []byte{4, 0, 0, 0, 0, 0})
		if s != api.Rejected || len(out) > 0 {
			t.Errorf("P19.5: Run: %d, %v", s, out)
		}
	}
}

func alikeLooks(a, b looked) bool {
	if a.status != b.status || a.why != b.why || a.epoch != b.epoch || a.tasks != b.tasks || a.channels != b.channels || a.controls != b.controls || a.most != b.most {
		return false
	}
	bs := func(a, b []api.Record) bool { return slices.Equal(a, b) }
	ps := func(a, b []api.Pane) bool { return slices.Equal(a, b) }
	return slices.EqualFunc(a.sinks, b.sinks, bs) && slices.Equal(a.durable, b.durable) && slices.Equal(a.over, b.over) &&
		slices.EqualFunc(a.offsets, b.offsets, func(a, b [][]int) bool { return slices.EqualFunc(a, b, slices.Equal) }) &&
		slices.EqualFunc(a.upto, b.upto, func(a, b [][]api.Record) bool { return slices.EqualFunc(a, b, bs) }) &&
		slices.EqualFunc(a.panes, b.panes, func(a, b [][]api.Pane) bool { return slices.EqualFunc(a, b, ps) })
}

// TestFrames: each event does one thing, if it can be done.
func TestFrames(t *testing.T) {
	j, l := line()
	step, send, deliver := ev(api.EvStep, 0, 0), ev(api.EvSend, 0, 0), ev(api.EvDeliver, 0, 0)
	take := ev(api.EvStep, 1, 0)
	for _, w := range []struct {
		what string
		most int
		l    []api.Event
	}{
		{"P19.2: nothing was read", 0, []api.Event{send, send}},
		{"P19.2: what isn't sent doesn't move", 0, []api.Event{step}},
		{"P19.2: one item, one frame", 1, []api.Event{step, send, send}},
		{"P19.2: a backlog keeps the source back", 1, []api.Event{step, step, send, send}},
		{"P19.2: no backlog is left", 2, []api.Event{step, send, step, send}},
		{"P19.2: what waits counts", 2, []api.Event{step, send, deliver, step, send}},
		{"P19.2: a send sends one", 3, []api.Event{step, send, step, send, step, send}},
		{"P19.2: what was taken doesn't count", 1, []api.Event{step, send, deliver, take, step, send}},
		{"P19.2: what wasn't delivered isn't taken", 2, []api.Event{step, send, take, step, send}},
		{"P19.2: one is taken", 2, []api.Event{step, send, step, send, deliver, deliver, take, step, send}},
		{"P19.2: one is delivered", 3, []api.Event{step, send, step, send, deliver, take, take, step, send, step, send}},
		{"P19.2: no credit", 4, again(9, step, send)},
		{"P19.2: a task that is down doesn't read", 0, []api.Event{ev(api.EvCrashTask, 0, 0), step, send}},
		{"P19.2: a task that is down has nothing", 0, []api.Event{step, ev(api.EvCrashTask, 0, 0), send}},
		{"P19.2: another task", 1, []api.Event{ev(api.EvStep, 2, 0), ev(api.EvStep, -1, 0), send, step, ev(api.EvSend, 1, 0), ev(api.EvSend, -1, 0), send}},
		{"P19.2: no events", 0, again(9, ev(-1, 0, 0), ev(10, 0, 0), ev(-10, 0, 0), ev(20, 0, 0))},
	} {
		c := cluster.New(j, l, api.Settings{Credits: 4})
		do(c, w.l...)
		is(t, w.what, c.Most(), w.most)
		if n := ends(t, w.what, c, j, l, api.Settings{Credits: 4}); n == 0 || !bags(c.Sink(1), mean.All(j, l)[1]) {
			t.Errorf("%s: %v behind %d Rounds", w.what, c.Sink(1), n)
		}
	}
}

func TestCredits(t *testing.T) {
	j, l := line()
	for i := range 100 {
		l[0][0] = append(l[0][0], item(1, int64(i), 1))
	}
	for _, w := range [][2]int{{math.MinInt, 1}, {0, 1}, {1, 1}, {2, 2}, {64, 64}, {65, 64}, {math.MaxInt, 64}} {
		c := cluster.New(j, api.Logs{{l[0][0][4:]}, nil}, api.Settings{Credits: w[0]})
		do(c, again(200, ev(api.EvStep, 0, 0), ev(api.EvSend, 0, 0))...)
		is(t, "P30.8: Most", c.Most(), w[1])
		do(c, again(200, ev(api.EvDeliver, 0, 0), ev(api.EvSend, 0, 0))...)
		is(t, "P30.8: Most", c.Most(), w[1])
	}
}

// forked: two partitions, each with one record and the end, to one sink.
func forked() (api.Job, api.Logs) {
	return jobOf(source(2), sink(1, 0)), api.Logs{{{item(1, 1, 10), mark(api.MaxMark)}, {item(1, 1, 20), mark(api.MaxMark)}}, nil}
}

// TestWhichFrame: B says which channel's.
func TestWhichFrame(t *testing.T) {
	j, l := forked()
	for _, w := range []struct {
		b     int
		first int64
	}{{0, 10}, {1, 20}, {2, 10}, {3, 20}, {-1, 20}, {-2, 10}, {math.MaxInt, 20}, {math.MinInt, 10}} {
		c := cluster.New(j, l, api.Settings{})
		for k := range 2 {
			do(c, ev(api.EvStep, k, 0), ev(api.EvSend, k, 0), ev(api.EvDeliver, k, 0))
		}
		do(c, ev(api.EvStep, 2, w.b), ev(api.EvStep, 2, 0))
		ends(t, "P19.2: B", c, j, l, api.Settings{})
		same(t, "P19.2: B", c.Sink(1), []api.Record{rec(1, 1, w.first), rec(1, 1, 30-w.first)})
	}
}

// TestWhichOfThoseThatHaveOne: channels without a frame don't count.
func TestWhichOfThoseThatHaveOne(t *testing.T) {
	j, l := forked()
	c := cluster.New(j, l, api.Settings{})
	do(c, ev(api.EvStep, 1, 0), ev(api.EvSend, 1, 0), ev(api.EvDeliver, 1, 0), ev(api.EvStep, 2, 4))
	do(c, ev(api.EvStep, 0, 0), ev(api.EvSend, 0, 0), ev(api.EvDeliver, 0, 0), ev(api.EvStep, 2, 7))
	ends(t, "P19.2: B", c, j, l, api.Settings{})
	same(t, "P19.2: B", c.Sink(1), []api.Record{rec(1, 1, 20), rec(1, 1, 10)})
}

// hearAll: the messages that are under way, not those that come of them.
func hearAll(c *cluster.Cluster) {
	do(c, again(c.Controls(), ev(api.EvControl, 0, 0))...)
}

// begun: all tasks are ready and know that checkpoint 1 has begun; of the sources nothing but the barriers is under way.
func begun(c *cluster.Cluster) {
	hearAll(c)
	hearAll(c)
	do(c, ev(api.EvTick, 0, 0))
	hearAll(c)
}

// TestBlocked: a channel whose barrier has come waits for the others', and doesn't count; of an unaligned checkpoint it goes on.
func TestBlocked(t *testing.T) {
	j := jobOf(source(2), sink(1, 0))
	l := api.Logs{{{item(1, 1, 10), mark(api.MaxMark)}, {item(1, 1, 20), item(1, 1, 21), mark(api.MaxMark)}}, nil}
	for over, first := range []int64{20, 10} {
		s := api.Settings{Credits: 4, Interval: 1, Timeout: 1000, Over: over}
		c := cluster.New(j, l, s)
		read := func(k, sends int) {
			do(c, ev(api.EvStep, k, 0))
			do(c, again(sends, ev(api.EvSend, k, 0), ev(api.EvDeliver, k, 0))...)
		}
		read(1, 1)
		begun(c)
		do(c, ev(api.EvSend, 0, 0), ev(api.EvDeliver, 0, 0), ev(api.EvStep, 2, 0)) // the barrier of channel 0
		read(0, 1)
		do(c, ev(api.EvStep, 2, 0))
		ends(t, "P19.2: blocked", c, j, l, s)
		is(t, "P19.2: blocked", c.Sink(1)[0], rec(1, 1, first))
	}
}

func TestControl(t *testing.T) {
	j, l := line()
	c := cluster.New(j, l, api.Settings{Interval: 1})
	rounds(c, 4)
	for _, a := range []int{0, 1, -1, 7, math.MaxInt, math.MinInt} {
		for _, b := range []int{2, 5, -1, -4, math.MaxInt - 2} {
			do(c, ev(api.EvTick, 0, 0))
			n := c.Controls()
			if n < 1 {
				t.Fatalf("P18.2: Controls %d", n)
			}
			do(c, ev(api.EvControl, a, 1), ev(api.EvControl, a, -2))
			if now := c.Controls(); now < n {
				t.Errorf("P19.2: doubled: %d, then %d", n, now)
			}
			n = c.Controls()
			do(c, ev(api.EvControl, a, b))
			is(t, "P19.2: lost", c.Controls(), n-1)
			do(c, again(n+3, ev(api.EvControl, a, b))...)
			is(t, "P19.2: all are lost", c.Controls(), 0)
			do(c, ev(api.EvControl, a, 0), ev(api.EvControl, a, 1))
			is(t, "P19.2: none is under way", c.Controls(), 0)
		}
	}
	ends(t, "P19.2: behind all that was lost", c, j, l, api.Settings{Interval: 1})
}

// TestAllLost: as long as no message comes, nothing is committed.
func TestAllLost(t *testing.T) {
	j, l := line()
	c := cluster.New(j, l, api.Settings{Interval: 1})
	for range 200 {
		do(c, again(c.Controls(), ev(api.EvControl, 0, 2))...)
		c.Round()
		do(c, again(c.Controls(), ev(api.EvControl, -1, 2))...)
	}
	is(t, "P19.2: lost", len(c.Durable())+len(c.Sink(1)), 0)
	ends(t, "P19.2: lost", c, j, l, api.Settings{Interval: 1})
}

// TestSomeDoubled: each message is told twice, and late once more.
func TestSomeDoubled(t *testing.T) {
	j, l := forked()
	c := cluster.New(j, l, api.Settings{Interval: 1})
	for range 60 {
		n := c.Controls()
		for i := range n {
			do(c, ev(api.EvControl, i, 1), ev(api.EvControl, i, 1))
		}
		do(c, again(n/2, ev(api.EvControl, 0, 0))...)
		do(c, again(max(c.Controls()-40, 0), ev(api.EvControl, 3, 2))...)
		for k := range 2 {
			do(c, ev(api.EvStep, k, 0), ev(api.EvSend, k, 0), ev(api.EvDeliver, k, 0), ev(api.EvStep, 2, k))
		}
		do(c, ev(api.EvTick, 0, 0))
	}
	ends(t, "P19.2: doubled", c, j, l, api.Settings{Interval: 1})
	if !bags(c.Sink(1), mean.All(j, l)[1]) {
		t.Errorf("P30.1: doubled: %v", c.Sink(1))
	}
}

func TestEpochs(t *testing.T) {
	j, l := line()
	tick, coord := ev(api.EvTick, 0, 0), ev(api.EvCrashCoord, 0, 0)
	for _, w := range []struct {
		what  string
		epoch uint64
		l     []api.Event
	}{
		{"P19.2: ticks alone", 1, again(9, tick)},
		{"P19.2: a coordinator that is down", 1, []api.Event{coord}},
		{"P19.2: it begins anew", 2, []api.Event{coord, tick}},
		{"P19.2: it is up", 2, []api.Event{coord, tick, tick, tick}},
		{"P19.2: down again", 4, []api.Event{coord, tick, coord, coord, tick, coord, tick}},
		{"P19.2: a task is down", 1, []api.Event{ev(api.EvCrashTask, 1, 0)}},
		{"P19.2: it is found", 2, []api.Event{ev(api.EvCrashTask, 1, 0), tick}},
		{"P19.2: both are down", 2, []api.Event{ev(api.EvCrashTask, 1, 0), coord, tick}},
		{"P19.2: no such task", 1, []api.Event{ev(api.EvCrashTask, 2, 0), ev(api.EvCrashTask, -1, 0), ev(api.EvCrashTask, math.MinInt, 0), tick}},
		{"P19.2: each time", 3, []api.Event{ev(api.EvCrashTask, 1, 0), tick, ev(api.EvCrashTask, 0, 0), tick}},
		{"P19.2: no power", 1, []api.Event{ev(api.EvCut, 0, 0), tick}},
		{"P19.2: it is back", 2, []api.Event{ev(api.EvCut, 0, 0), tick, tick}},
		{"P19.2: A modulo 64", 2, []api.Event{ev(api.EvCut, 64, 0), tick, tick}},
		{"P19.2: below 0", 2, []api.Event{ev(api.EvCut, -128, 0), tick, tick}},
		{"P19.2: not yet", 1, []api.Event{ev(api.EvCut, 1, 0), tick, tick, tick}},
		{"P19.2: not yet", 1, []api.Event{ev(api.EvCut, -1, 0), tick, tick, tick}},
		{"P19.2: no power, no coordinator", 1, []api.Event{ev(api.EvCut, 0, 0), tick, ev(api.EvCrashTask, 0, 0)}},
		{"P19.2: the disk crashes", 1, []api.Event{ev(api.EvCrashDisk, 5, 7)}},
		{"P19.2: the coordinator is down with it", 2, []api.Event{ev(api.EvCrashDisk, 5, 7), tick}},
		{"P19.2: a crash brings power", 2, []api.Event{ev(api.EvCut, 0, 0), ev(api.EvCrashDisk, 5, 7), tick, tick}},
		{"P19.2: a crash brings power", 3, []api.Event{ev(api.EvCut, 0, 0), ev(api.EvCrashDisk, 5, 7), tick, ev(api.EvCrashCoord, 0, 0), tick}},
		{"P19.2: a crash brings power", 2, []api.Event{ev(api.EvCut, 0, 0), tick, ev(api.EvCrashDisk, 5, 7), tick, tick}},
		{"P19.2: power goes again", 2, []api.Event{ev(api.EvCut, 0, 0), tick, ev(api.EvCrashDisk, 5, 7), tick, ev(api.EvCut, 0, 0), tick}},
		{"P19.2: power goes again", 2, []api.Event{ev(api.EvCut, 0, 0), tick, tick, ev(api.EvCut, 0, 0), tick}},
		{"P19.2: power goes again", 3, []api.Event{ev(api.EvCut, 0, 0), tick, tick, ev(api.EvCut, 0, 0), tick, tick}},
		{"P19.2: a task is down, but there is no power", 1, []api.Event{ev(api.EvCut, 0, 0), ev(api.EvCrashTask, 0, 0), tick}},
		{"P19.2: room is nothing to it", 1, []api.Event{ev(api.EvRoom, 1, 0), tick, tick}},
	} {
		c := cluster.New(j, l, api.Settings{})
		do(c, w.l...)
		is(t, w.what, c.Epoch(), w.epoch)
		do(c, ev(api.EvRoom, 0, 0))
		ends(t, w.what, c, j, l, api.Settings{})
		same(t, w.what, c.Sink(1), []api.Record{rec(1, 1, 1), rec(2, 2, 2), rec(1, 3, 3)})
	}
}

// flows: frames go on, so many times, without a word of the coordinator's.
func flows(c *cluster.Cluster, n int) {
	for i := range n {
		for ch := range c.Channels() {
			do(c, ev(api.EvSend, ch, 0), ev(api.EvDeliver, ch, 0))
		}
		for no := range c.Tasks() {
			do(c, ev(api.EvStep, no, i))
		}
	}
}

// TestAcks: a checkpoint that all tasks know of becomes durable as soon as their messages come; and if they are lost, as soon as it is asked for again.
func TestAcks(t *testing.T) {
	j, l := forked()
	s := api.Settings{Interval: 1, Timeout: 1000}
	c := cluster.New(j, l, s)
	begun(c)
	flows(c, 9)
	same(t, "P18.3: not all acks have come", c.Durable(), nil)
	hearAll(c)
	same(t, "P18.3: all acks have come", c.Durable(), []uint64{1})

	c = cluster.New(j, l, s)
	begun(c)
	flows(c, 9)
	do(c, again(c.Controls(), ev(api.EvControl, 0, 2))...)
	do(c, ev(api.EvTick, 0, 0))
	hearAll(c)
	hearAll(c)
	same(t, "P18.2: it is asked for again", c.Durable(), []uint64{1})
}

// TestPowerGoesAtThePut: the coordinator finds that at once; what was being laid isn't durable, or is it whole.
func TestPowerGoesAtThePut(t *testing.T) {
	j, l := forked()
	s := api.Settings{Interval: 1, Timeout: 1000}
	for cut := range 9 {
		c := cluster.New(j, l, s)
		begun(c)
		flows(c, 9)
		do(c, ev(api.EvCut, cut, 0))
		hearAll(c)
		durable := len(c.Durable())
		is(t, "P19.3: Epoch", c.Epoch(), 1)
		do(c, ev(api.EvTick, 0, 0))
		if cut < 4 {
			is(t, "P19.2: no power at the Put", durable, 0)
			is(t, "P19.2: the disk is back, the coordinator anew", c.Epoch(), 2)
		}
		ends(t, "P30.5", c, j, l, s)
		if !bags(c.Sink(1), mean.All(j, l)[1]) {
			t.Errorf("P30.5: %v", c.Sink(1))
		}
	}
}

// TestCrashDisk: a crash takes a Cut back that is due.
func TestCrashDisk(t *testing.T) {
	j, l := line()
	for cut := range 5 {
		c := cluster.New(j, l, api.Settings{})
		do(c, ev(api.EvCut, cut, 0), ev(api.EvCrashDisk, -3, -4))
		ends(t, "P19.2: no Cut is due", c, j, l, api.Settings{})
		is(t, "P19.2: no Cut is due", c.Epoch(), 2)
		c = cluster.New(j, l, api.Settings{})
		do(c, ev(api.EvCut, cut, 0))
		ends(t, "P30.5", c, j, l, api.Settings{})
		is(t, "P19.2: a Cut is due", c.Epoch(), 2)
	}
}

// TestNobodyLeads: without a coordinator tasks go on, but nothing becomes durable.
func TestNobodyLeads(t *testing.T) {
	j, l := line()
	s := api.Settings{Interval: 1, Credits: 9}
	c := cluster.New(j, l, s)
	begun(c)
	do(c, ev(api.EvCrashCoord, 0, 0))
	for range 40 {
		do(c, ev(api.EvStep, 0, 0), ev(api.EvSend, 0, 0), ev(api.EvDeliver, 0, 0), ev(api.EvStep, 1, 0))
		hearAll(c)
	}
	is(t, "P19.2: nobody leads", len(c.Durable())+c.Controls(), 0)
	is(t, "P19.2: nobody leads", c.Most(), 1)
	ends(t, "P19.2: nobody leads", c, j, l, s)
}

// TestRoom: in too little room nothing is durable.
func TestRoom(t *testing.T) {
	j, l := line()
	for _, s := range []api.Settings{{Interval: 1, Room: 1}, {Interval: 1, Room: 30}} {
		c := cluster.New(j, l, s)
		rounds(c, 200)
		is(t, "P19.1: Room", len(c.Durable()), 0)
		do(c, ev(api.EvRoom, s.Room, 0))
		rounds(c, 20)
		is(t, "P19.2: Room", len(c.Durable()), 0)
		for _, room := range []int{0, -1, math.MinInt, 1 << 20, math.MaxInt} {
			do(c, ev(api.EvRoom, room, 0))
			ends(t, "P19.2: Room", c, j, l, s)
		}
	}
	for _, room := range []int{0, -1, math.MinInt, 1 << 20, math.MaxInt} {
		s := api.Settings{Room: room}
		ends(t, "P19.1: Room", cluster.New(j, l, s), j, l, s)
	}
}

// TestNumbers: what a coordinator forgot as it crashed doesn't come again.
func TestNumbers(t *testing.T) {
	j, l := line()
	s := api.Settings{Interval: 1, Room: 1}
	crashes := [][]api.Event{{}, {ev(api.EvCrashCoord, 0, 0)}, {ev(api.EvCrashDisk, 0, 0)}, {ev(api.EvCrashTask, 0, 0)}, again(9, ev(api.EvCrashCoord, 0, 0), ev(api.EvTick, 0, 0))}
	for _, crash := range crashes {
		c := cluster.New(j, l, s)
		rounds(c, 200) // each number ends at a full disk, some ten Rounds behind the last one at most
		do(c, crash...)
		do(c, ev(api.EvRoom, 0, 0))
		ends(t, "P19.2: numbers", c, j, l, s)
		if n := c.Durable(); len(n) != 1 || n[0] < 20 {
			t.Errorf("P19.2: %v: durable are %v", crash, n)
		}
	}
}

// TestTold: what is told of a checkpoint.
func TestTold(t *testing.T) {
	j := jobOf(source(2), source(1), windowed(api.Window{Kind: api.WinTumbling, Size: 100}, api.AggSum, 4, 1), sink(2, 0), sink(1, 2))
	a, b := []api.Item{item(1, 1, 1), item(2, 2, 2)}, []api.Item{item(9, 1, 9), item(8, 2, 8), item(7, 3, 7)}
	var many []api.Item
	var panes []api.Pane
	for key := range int64(20) {
		many = append(many, item(key, 5, key), item(key, 105, 1))
		panes = append(panes, api.Pane{Key: key, Span: api.Span{From: 0, To: 100}, Acc: key}, api.Pane{Key: key, Span: api.Span{From: 100, To: 200}, Acc: 1})
	}
	l := api.Logs{{a, b}, {many}, nil, nil, nil}
	for over := range 3 {
		c := cluster.New(j, l, api.Settings{Interval: 3, Over: over, Keep: 2, Credits: 8})
		rounds(c, 200)
		ns := c.Durable()
		is(t, "P19.3: Durable", len(ns), 2)
		for _, n := range ns {
			is(t, "P19.3: Over", c.Over(n), over == 1 || over == 2 && n%2 == 0)
			if at := c.Offsets(n); !slices.EqualFunc(at, [][]int{{2, 3}, {40}, nil, nil, nil}, slices.Equal) {
				t.Errorf("P19.3: Offsets(%d): %v", n, at)
			}
			same(t, "P19.3: Panes", c.Panes(2, n), panes)
			same(t, "P19.3: Upto, task by task", c.Upto(3, n), []api.Record{rec(1, 1, 1), rec(2, 2, 2), rec(9, 1, 9), rec(8, 2, 8), rec(7, 3, 7)})
			for _, i := range []int{-1, 0, 1, 3, 4, 5, math.MaxInt, math.MinInt} {
				same(t, "P19.3: Panes of another", c.Panes(i, n), nil)
			}
			for _, i := range []int{-1, 0, 1, 2, 4, 5, math.MaxInt, math.MinInt} {
				same(t, "P19.3: Upto of another", c.Upto(i, n), nil)
				same(t, "P19.3: Sink of another", c.Sink(i), nil)
			}
		}
		if !bags(c.Sink(3), mean.All(j, l)[3]) {
			t.Errorf("P19.3: Sink: %v", c.Sink(3))
		}
		for _, n := range []uint64{0, ns[0] - 1, ns[1] + 1, ns[1] + 2, math.MaxUint64, math.MaxUint64 - 1} {
			if len(c.Offsets(n))+len(c.Upto(3, n))+len(c.Panes(2, n)) > 0 || c.Over(n) {
				t.Errorf("P19.3: something of checkpoint %d", n)
			}
		}
	}
}

func TestOver(t *testing.T) {
	j, l := line()
	for _, w := range [][2]int{{0, 0}, {1, 1}, {2, 2}, {3, 0}, {4, 1}, {5, 2}, {-1, 2}, {-2, 1}, {-3, 0}, {math.MaxInt, math.MaxInt % 3}, {math.MinInt, 1}} {
		c := cluster.New(j, api.Logs{{l[0][0][:3]}, nil}, api.Settings{Over: w[0], Keep: 100, Interval: 1, Timeout: 100})
		rounds(c, 50)
		is(t, "P19.1: all of them are kept", c.Durable()[0], 1)
		for _, n := range c.Durable() {
			is(t, "P19.1: Over", c.Over(n), w[1] == 1 || w[1] == 2 && n%2 == 0)
		}
	}
}

func TestKeep(t *testing.T) {
	j, l := line()
	for _, keep := range []int{math.MinInt, -1, 0, 1, 2, 3, 7} {
		c := cluster.New(j, api.Logs{{l[0][0][:3]}, nil}, api.Settings{Keep: keep, Interval: 1})
		rounds(c, 100)
		is(t, "P19.1: Keep", len(c.Durable()), max(keep, 1))
	}
}

// TestManyKept: however many are to be kept, and however little more room there is than for three, new ones come.
func TestManyKept(t *testing.T) {
	j := jobOf(source(1), reduce(api.AggSum, 1, 0), sink(1, 1))
	var items []api.Item
	for key := range int64(300) {
		items = append(items, item(key, 1, 1))
	}
	l := api.Logs{{append(items, mark(api.MaxMark))}, nil, nil}
	const most = 3 * (300*32 + 300) // a pane has 32 bytes
	for _, keep := range []int{1, 2, 3, 4, 1000} {
		for _, room := range []int{0, most} {
			s := api.Settings{Interval: 2, Keep: keep, Room: room}
			c := cluster.New(j, l, s)
			do(c, ev(api.EvRoom, most, 0))
			ends(t, "P30.6: the disk has room for three", c, j, l, s)
		}
		s := api.Settings{Interval: 2, Keep: keep, Room: most}
		c := cluster.New(j, api.Logs{{items}, nil, nil}, s)
		do(c, ev(api.EvRoom, most*2, 0))
		rounds(c, 2000)
		for range 50 {
			if rounds(c, 1); keep < 4 {
				is(t, "P19.1: Keep, where the disk has room for more", len(c.Durable()), keep)
			}
		}
	}
}

// TestRound: a Round is what the chapter says.
func TestRound(t *testing.T) {
	r := rand.New(rand.NewSource(4))
	for range 60 {
		j := someJob(r, 6)
		l, s := someLogs(r, j, 10, true), someSettings(r)
		a, b := cluster.New(j, l, s), cluster.New(j, l, s)
		for n := range 60 {
			if r.Intn(9) == 0 {
				e := someHabits(r).event(r, &watch{Cluster: a})
				do(a, e)
				do(b, e)
			}
			a.Round()
			under := b.Controls()
			for ch := range b.Channels() {
				do(b, ev(api.EvSend, ch, 0), ev(api.EvDeliver, ch, 0))
			}
			for no := range b.Tasks() {
				do(b, ev(api.EvStep, no, n))
			}
			do(b, again(under, ev(api.EvControl, 0, 0))...)
			do(b, ev(api.EvTick, 0, 0))
			if x, y := look(a, len(j.Nodes)), look(b, len(j.Nodes)); !alikeLooks(x, y) {
				t.Fatalf("P19.4: Round %d: %+v, wanted %+v", n, x, y)
			}
		}
	}
}

func TestFinished(t *testing.T) {
	j, l := line()
	s := api.Settings{Interval: 1, Keep: 3}
	c := cluster.New(j, l, s)
	ends(t, "P19.4", c, j, l, s)
	at := look(c, 2)
	if n := at.durable[len(at.durable)-1]; !slices.EqualFunc(c.Offsets(n), [][]int{{4}, nil}, slices.Equal) {
		t.Errorf("P19.4: Offsets %v", c.Offsets(n))
	}
	do(c, everything()...)
	rounds(c, 9)
	if now := look(c, 2); !alikeLooks(now, at) {
		t.Errorf("P19.4: it stays: %+v, wanted %+v", now, at)
	}
}

// TestNotFinished: not ahead of the last sink's commit, however durable it is.
func TestNotFinished(t *testing.T) {
	j, l := jobOf(source(1), sink(2, 0), sink(1, 0)), api.Logs{{{item(1, 1, 1), mark(api.MaxMark)}}, nil, nil}
	c := cluster.New(j, l, api.Settings{Interval: 1, Timeout: 100})
	for n := c.Durable(); len(n) == 0 || c.Offsets(n[0])[0][0] < 2; n = c.Durable() {
		do(c, again(c.Controls(), ev(api.EvControl, 0, 0))...)
		for ch := range c.Channels() {
			do(c, ev(api.EvSend, ch, 0), ev(api.EvDeliver, ch, 0))
		}
		for no := range c.Tasks() {
			do(c, ev(api.EvStep, no, 0))
		}
		do(c, ev(api.EvTick, 0, 0))
	}
	do(c, again(c.Controls(), ev(api.EvControl, 0, 2))...)
	is(t, "P19.4: durable, not committed", c.Status(), api.Running)
	is(t, "P19.4: durable, not committed", len(c.Sink(1))+len(c.Sink(2)), 0)
	do(c, ev(api.EvTick, 0, 0))
	for c.Controls() > 1 && len(c.Sink(2)) == 0 { // the commits are told sink by sink
		is(t, "P19.4: not by all", c.Status(), api.Running)
		do(c, ev(api.EvControl, 0, 0))
	}
	is(t, "P19.4: by all", c.Status(), api.Finished)
	is(t, "P19.4: by all", len(c.Sink(1))+len(c.Sink(2)), 2)
}

// TestNotWhole: without the end it goes on for good.
func TestNotWhole(t *testing.T) {
	j, l := forked()
	idle := jobOf(source(1), source(1), sink(1, 0))
	c := cluster.New(idle, api.Logs{{l[0][0]}, {{mark(5)}}, nil}, api.Settings{Interval: 1})
	rounds(c, 300)
	is(t, "P19.4: a source that feeds none isn't Whole", c.Status(), api.Running)
	is(t, "P30.12: a source that feeds none", len(c.Sink(2)), 1)
	for _, p := range [][]api.Item{nil, {item(1, 1, 20)}, {item(1, 1, 20), mark(api.MaxTime)}} {
		c := cluster.New(j, api.Logs{{l[0][0], p}, nil}, api.Settings{Interval: 1})
		rounds(c, 300)
		is(t, "P19.4: not Whole", c.Status(), api.Running)
		is(t, "P30.12: not Whole", len(c.Sink(1)), 1+min(len(p), 1))
	}
}

func TestBound(t *testing.T) {
	j := jobOf(source(2), windowed(api.Window{Kind: api.WinSliding, Size: 10, Slide: 3}, api.AggSum, 3, 0), sink(3, 1))
	l := api.Logs{{{mark(1), mark(2)}, {item(1, 1, 1)}}, nil, nil}
	for _, w := range []struct{ interval, timeout, ticks int }{
		{0, 0, 2}, {-5, math.MinInt, 2}, {1, 1, 2}, {7, 9, 16}, {1000, 1, 1001}, {1, 1000, 1001}, {1001, math.MaxInt, 2000},
	} {
		s := api.Settings{Interval: w.interval, Timeout: w.timeout, Credits: 5, Over: 1, Keep: 3, Room: 9}
		is(t, "P19.5: Bound", cluster.Bound(j, l, s), 64*(1+w.ticks+8+9)+16*3*(1+4+4+9))
		is(t, "P19.5: Bound without items", cluster.Bound(j, api.Logs{{nil, nil}, nil, nil}, s), 64*(1+w.ticks+8+9))
	}
	r := rand.New(rand.NewSource(3))
	for range 50 {
		j := someJob(r, 8)
		l, s := someLogs(r, j, 9, true), someSettings(r)
		p, weights := plan.Make(j), 0
		for _, w := range job.Weights(j) {
			weights += w
		}
		is(t, "P19.5: Bound", cluster.Bound(j, l, s), 64*(1+s.Interval+s.Timeout+len(p.Tasks)+len(p.Channels))+16*job.Items(l)*(weights+len(p.Channels)))
	}
}

func TestRun(t *testing.T) {
	r := rand.New(rand.NewSource(5))
	finished := 0
	for range 100 {
		j := jobOf(source(1+r.Intn(2)), sink(1+r.Intn(2), 0))
		l, s := someLogs(r, j, 3, true), api.Settings{Interval: 1, Credits: 3}
		c := cluster.New(j, l, s)
		var b []byte
		for range r.Intn(2500) {
			e := ev([]int{api.EvStep, api.EvSend, api.EvDeliver, api.EvTick, api.EvControl}[min(r.Intn(16), 4)], r.Intn(4), 0)
			if r.Intn(500) == 0 {
				e = ev(api.EvCrashTask+r.Intn(3), r.Intn(256), r.Intn(256))
			}
			do(c, e)
			b = append(b, byte(e.Kind+10*r.Intn(25)), byte(e.A), byte(e.B))
		}
		status, out := cluster.Run(j, l, s, append(b, make([]byte, r.Intn(3))...))
		is(t, "P19.5: Run", status, c.Status())
		is(t, "P19.5: Run", len(out), 2)
		same(t, "P19.5: Run", out[0], nil)
		same(t, "P19.5: Run", out[1], c.Sink(1))
		finished += status
	}
	if finished == 0 || finished == 100 {
		t.Errorf("%d are Finished", finished)
	}
}
