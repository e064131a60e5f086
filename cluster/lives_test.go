package cluster_test

import (
	"math"
	"math/rand"
	"slices"
	"strconv"
	"testing"

	"leat/api"
	"leat/cluster"
	"leat/job"
	"leat/mean"
)

// checkpoint: what a cluster told of a durable one.
type checkpoint struct {
	over    bool
	offsets [][]int
	upto    [][]api.Record
	panes   [][]api.Pane
}

// watch: a cluster, and what it told so far.
type watch struct {
	*cluster.Cluster
	t         *testing.T
	j         api.Job
	l         api.Logs
	s         api.Settings
	all       [][]api.Record
	committed [][]api.Record
	had       map[uint64]checkpoint
	durable   []uint64
	newest    uint64
	epoch     uint64
}

func watched(t *testing.T, j api.Job, l api.Logs, s api.Settings) *watch {
	w := &watch{Cluster: cluster.New(j, l, s), t: t, j: j, l: l, s: s, all: mean.All(j, l), had: map[uint64]checkpoint{}}
	w.committed = make([][]api.Record, len(j.Nodes))
	return w
}

func (w *watch) isSink(node int) bool { return w.j.Nodes[node].Kind == api.NodeSink }

func (w *watch) isKeyed(node int) bool {
	return w.j.Nodes[node].Kind == api.NodeReduce || w.j.Nodes[node].Kind == api.NodeWindow
}

// holds: all that the document says of every moment.
func (w *watch) holds() {
	w.t.Helper()
	if w.Most() > min(max(w.s.Credits, 1), api.MaxCredits) {
		w.t.Fatalf("P30.8: %d waited and moved, of %d credits", w.Most(), w.s.Credits)
	}
	if w.Epoch() < w.epoch {
		w.t.Fatalf("P19.3: Epoch %d behind %d", w.Epoch(), w.epoch)
	}
	w.epoch = w.Epoch()
	for i := range w.j.Nodes {
		recs := w.Sink(i)
		if w.isSink(i) && !mean.Within(recs, w.all[i]) {
			w.t.Fatalf("P30.1: node %d: %v isn't within %v", i, recs, w.all[i])
		}
		if !w.isSink(i) && len(recs) > 0 {
			w.t.Fatalf("P19.3: node %d is no sink: %v", i, recs)
		}
		if was := w.committed[i]; len(recs) < len(was) || !slices.Equal(recs[:len(was)], was) {
			w.t.Fatalf("P30.2: node %d: %v behind %v", i, recs, was)
		}
		w.committed[i] = recs
	}
	w.checkpoints()
}

func (w *watch) checkpoints() {
	w.t.Helper()
	l := w.Durable()
	w.durable = l
	if len(l) == 0 && w.newest > 0 || len(l) > 0 && l[len(l)-1] < w.newest || !slices.IsSorted(l) {
		w.t.Fatalf("P30.2: durable are %v behind %d", l, w.newest)
	}
	for i, n := range l {
		now, old := w.told(n), w.had[n]
		if _, ok := w.had[n]; !ok {
			if n <= w.newest {
				w.t.Fatalf("P19.2: number %d comes again behind %d", n, w.newest)
			}
			w.holdsOf(n, now)
		} else if !alike(now, old) {
			w.t.Fatalf("P30.2: %d tells %v, and told %v", n, now, old)
		}
		w.had[n] = now
		w.newest = max(w.newest, n)
		if i > 0 {
			w.grows(l[i-1], n)
		}
	}
}

func (w *watch) told(n uint64) checkpoint {
	p := checkpoint{over: w.Over(n), offsets: w.Offsets(n)}
	for i := range w.j.Nodes {
		p.upto, p.panes = append(p.upto, w.Upto(i, n)), append(p.panes, w.Panes(i, n))
	}
	return p
}

func alike(a, b checkpoint) bool {
	return a.over == b.over && slices.EqualFunc(a.offsets, b.offsets, slices.Equal) && slices.EqualFunc(a.upto, b.upto, slices.Equal) && slices.EqualFunc(a.panes, b.panes, slices.Equal)
}

// holdsOf: a checkpoint that is durable is a cut.
func (w *watch) holdsOf(n uint64, p checkpoint) {
	w.t.Helper()
	if over := []bool{false, true, n%2 == 0}[(w.s.Over%3+3)%3]; p.over != over {
		w.t.Fatalf("P19.3: Over(%d): %v", n, p.over)
	}
	for i, at := range p.offsets {
		for k, o := range at {
			if o < 0 || o > len(w.l[i][k]) {
				w.t.Fatalf("P30.3: %d: offsets %v", n, p.offsets)
			}
		}
		if len(at) != len(w.l[i]) {
			w.t.Fatalf("P19.3: %d: offsets %v", n, p.offsets)
		}
	}
	cut, left := mean.Cut(w.j, w.l, p.offsets), mean.Left(w.j, w.l, p.offsets)
	for i := range w.j.Nodes {
		if w.isSink(i) && !(mean.Within(p.upto[i], cut[i]) && (p.over || len(p.upto[i]) == len(cut[i]))) || !w.isSink(i) && len(p.upto[i]) > 0 {
			w.t.Fatalf("P30.3: %d, %v: node %d: %v, wanted %v", n, p.over, i, p.upto[i], cut[i])
		}
		if w.isKeyed(i) && !p.over && !slices.Equal(p.panes[i], left[i]) || !w.isKeyed(i) && len(p.panes[i]) > 0 {
			w.t.Fatalf("P30.3: %d: node %d: panes %v, wanted %v", n, i, p.panes[i], left[i])
		}
	}
}

// grows: of two durable ones the later one has read what the earlier one had.
func (w *watch) grows(a, b uint64) {
	w.t.Helper()
	for i, at := range w.had[a].offsets {
		for k, o := range at {
			if o > w.had[b].offsets[i][k] {
				w.t.Fatalf("P30.4: %v of %d behind %v of %d", w.had[b].offsets, b, w.had[a].offsets, a)
			}
		}
		if !mean.Within(w.had[a].upto[i], w.had[b].upto[i]) {
			w.t.Fatalf("P30.4: node %d: %v of %d, %v of %d", i, w.had[a].upto[i], a, w.had[b].upto[i], b)
		}
	}
}

// finishes: behind a fair stretch all that is meant is committed.
func (w *watch) finishes(what string) int {
	w.t.Helper()
	w.Do(ev(api.EvRoom, 0, 0))
	w.Do(ev(api.EvCut, 63, 0)) // none is due for long, and a crash takes it back
	w.Do(ev(api.EvCrashDisk, 0, 0))
	n := ends(w.t, what, w.Cluster, w.j, w.l, w.s)
	w.holds()
	if !slices.ContainsFunc(w.Durable(), w.isEnd) {
		w.t.Fatalf("P19.4: %s: none of %v has read all", what, w.Durable())
	}
	for i := range w.j.Nodes {
		if w.isSink(i) && len(w.Sink(i)) != len(w.all[i]) {
			w.t.Fatalf("P30.6: %s: node %d: %v, wanted %v", what, i, w.Sink(i), w.all[i])
		}
	}
	return n
}

// isEnd: whether a checkpoint's sources have read all.
func (w *watch) isEnd(n uint64) bool {
	for i, at := range w.Offsets(n) {
		for k, o := range at {
			if o < len(w.l[i][k]) {
				return false
			}
		}
	}
	return true
}

// habits: how a script goes, in parts of a thousand: Rounds, and crashes and other trouble among the events between them.
type habits struct {
	rounds, trouble, lost int
}

func someHabits(r *rand.Rand) habits {
	return habits{rounds: []int{0, 100, 300, 600}[r.Intn(4)], trouble: []int{0, 5, 40, 150}[r.Intn(4)], lost: []int{0, 100, 500}[r.Intn(3)]}
}

func (h habits) event(r *rand.Rand, w *watch) api.Event {
	e := ev(r.Intn(api.EvTick+1), r.Intn(max(w.Tasks(), w.Channels())+1)-r.Intn(2), r.Intn(9)-4)
	if r.Intn(3) == 0 {
		e.Kind = api.EvControl
	}
	if e.Kind == api.EvControl {
		e.B = 0
		if r.Intn(1000) < h.lost {
			e.B = 1 + r.Intn(2)
		}
	}
	if r.Intn(1000) < h.trouble {
		e = ev(api.EvCrashTask+r.Intn(5), r.Intn(w.Tasks()), r.Intn(70))
		switch e.Kind {
		case api.EvRoom:
			e.A = r.Intn(4) * 700
		case api.EvCut, api.EvCrashDisk:
			e.A = r.Intn(70) - 5
		}
	}
	return e
}

// lives: a life of so many steps, watched every few of them.
func (w *watch) lives(r *rand.Rand, steps int) {
	w.t.Helper()
	h := someHabits(r)
	for step := range steps {
		if r.Intn(1000) < h.rounds {
			w.Round()
		} else {
			w.Do(h.event(r, w))
		}
		if step%16 == 0 {
			w.holds()
		} else if !slices.Equal(w.Durable(), w.durable) { // one that is gone may be found again, where its deleting met the power's end
			w.checkpoints()
		}
	}
	w.holds()
}

func someSettings(r *rand.Rand) api.Settings {
	return api.Settings{Credits: 1 + r.Intn(5), Interval: 1 + r.Intn(9), Timeout: 1 + r.Intn(9), Over: r.Intn(3), Keep: r.Intn(4), Room: []int{0, 0, 3000, 1 << 16}[r.Intn(4)]}
}

// TestLives: whatever happens, P30.1 to P30.6 and P30.8 hold.
func TestLives(t *testing.T) {
	var kinds [2]int
	restored, finished := 0, 0
	for seed := range int64(600) {
		r := rand.New(rand.NewSource(seed))
		j := someJob(r, 6)
		w := watched(t, j, someLogs(r, j, 14, true), someSettings(r))
		w.lives(r, r.Intn(900))
		for _, p := range w.had {
			if kinds[0]++; p.over {
				kinds[1]++
			}
		}
		if w.Epoch() > 1 && len(w.had) > 0 {
			restored++
		}
		finished += w.Status()
		w.finishes("seed " + strconv.FormatInt(seed, 10))
	}
	if kinds[0] < 300 || kinds[1] < 100 || restored < 50 || finished < 100 || finished > 400 {
		t.Errorf("these lives are too dull: %d checkpoints, %d of them unaligned, %d restored, %d finished", kinds[0], kinds[1], restored, finished)
	}
}

// TestStale: messages of elder epochs, and doubled ones, come again and again. They stand ahead of those that are told once.
func TestStale(t *testing.T) {
	durable := 0
	for seed := range int64(400) {
		r := rand.New(rand.NewSource(seed))
		j := someJob(r, 2)
		s := someSettings(r)
		s.Timeout = 20
		w := watched(t, j, someLogs(r, j, 10, true), s)
		stale := 0
		for range 80 + r.Intn(300) {
			switch r.Intn(6) {
			case 0:
				do(w.Cluster, ev(api.EvTick, 0, 0))
			case 1, 2:
				for w.Controls() > stale && w.Status() == api.Running {
					if r.Intn(6) == 0 && stale < 60 {
						do(w.Cluster, ev(api.EvControl, stale, 1))
						stale++
					} else {
						do(w.Cluster, ev(api.EvControl, stale, 0))
					}
				}
			case 3:
				do(w.Cluster, again(r.Intn(4), ev(api.EvControl, r.Intn(stale+1), 1))...)
			case 4:
				flows(w.Cluster, 1+r.Intn(3))
			default:
				if r.Intn(6) == 0 {
					do(w.Cluster, ev(api.EvCrashTask+r.Intn(3), r.Intn(w.Tasks()), 0))
				}
			}
			w.holds()
		}
		durable += len(w.had)
		w.finishes("P30.5: stale messages")
	}
	if durable < 200 {
		t.Errorf("these lives are too dull: %d checkpoints", durable)
	}
}

// TestSteady: without the end, too, there comes a Round behind which all that was read counts.
func TestSteady(t *testing.T) {
	for seed := range int64(150) {
		r := rand.New(rand.NewSource(seed))
		j := someJob(r, 6)
		l := someLogs(r, j, 14, false)
		w := watched(t, j, l, someSettings(r))
		w.lives(r, r.Intn(600))
		do(w.Cluster, ev(api.EvCrashDisk, 1, 9), ev(api.EvRoom, 0, 0))
		cut, bound := mean.Cut(j, l, nil), cluster.Bound(j, l, w.s)
		for n := 0; ; n++ {
			missing := -1
			for i := range j.Nodes {
				if w.isSink(i) && !bags(w.Sink(i), cut[i]) {
					missing = i
				}
			}
			if missing < 0 {
				break
			}
			if n == bound {
				t.Fatalf("P30.12: seed %d: node %d: %v, wanted %v", seed, missing, w.Sink(missing), cut[missing])
			}
			w.Round()
		}
		w.holds()
		for range 50 {
			w.Round()
		}
		w.holds()
	}
}

// TestIndependent: one job, one meaning; and the same again, if all is the same.
func TestIndependent(t *testing.T) {
	for seed := range int64(60) {
		r := rand.New(rand.NewSource(seed))
		j := someJob(r, 7)
		l := someLogs(r, j, 14, true)
		var first [][]api.Record
		for range 4 {
			again := r.Int63()
			var told []looked
			for range 2 {
				own := rand.New(rand.NewSource(again))
				w := watched(t, j, l, someSettings(own))
				w.lives(own, own.Intn(500))
				told = append(told, look(w.Cluster, len(j.Nodes)))
				w.finishes("P30.7")
				told = append(told, look(w.Cluster, len(j.Nodes)))
			}
			if !alikeLooks(told[0], told[2]) || !alikeLooks(told[1], told[3]) {
				t.Fatalf("P30.10: seed %d: %+v, then %+v", seed, told[0], told[2])
			}
			if first == nil {
				first = told[1].sinks
			}
			if !slices.EqualFunc(told[1].sinks, first, bags) {
				t.Fatalf("P30.7: seed %d: %v, then %v", seed, first, told[1].sinks)
			}
		}
	}
}

// eventsOf: of Rounds of a cluster that never has more than so many control messages under way.
func eventsOf(c *cluster.Cluster, n, controls int) []api.Event {
	var l []api.Event
	for round := range n {
		for ch := range c.Channels() {
			l = append(l, ev(api.EvSend, ch, 0), ev(api.EvDeliver, ch, 0))
		}
		for no := range c.Tasks() {
			l = append(l, ev(api.EvStep, no, round))
		}
		l = append(l, again(controls, ev(api.EvControl, 0, 0))...)
		l = append(l, ev(api.EvTick, 0, 0))
	}
	return l
}

// crashed: a sink, a source, another task, the coordinator, the disk, which keeps nothing or something, and the disk within the next calls.
func crashed(c *cluster.Cluster) [][]api.Event {
	l := [][]api.Event{{ev(api.EvCrashCoord, 0, 0)}, {ev(api.EvCrashDisk, 0, 0)}, {ev(api.EvCrashDisk, 63, 3)}}
	for no := range c.Tasks() {
		l = append(l, []api.Event{ev(api.EvCrashTask, no, 0)})
	}
	for cut := range 7 {
		l = append(l, []api.Event{ev(api.EvCut, cut, 0)})
	}
	return append(l, []api.Event{ev(api.EvCrashTask, 0, 0), ev(api.EvTick, 0, 0), ev(api.EvCrashCoord, 0, 0), ev(api.EvTick, 0, 0)})
}

// TestWhenever: one crash behind each second event of a life.
func TestWhenever(t *testing.T) {
	j := jobOf(source(2), windowed(api.Window{Kind: api.WinTumbling, Size: 4}, api.AggSum, 2, 0), sink(1, 1))
	l := api.Logs{{{item(1, 1, 1), item(2, 3, 2), mark(3), item(1, 5, 4), mark(api.MaxMark)}, {item(2, 2, 8), mark(4), item(1, 7, 16), mark(api.MaxMark)}}, nil, nil}
	for over := range 3 {
		s := api.Settings{Interval: 1, Timeout: 9, Over: over, Credits: 2, Keep: 1000}
		c := cluster.New(j, l, s)
		script := eventsOf(c, 22, 9)
		if do(c, script...); len(c.Durable()) < 2 {
			t.Fatalf("this life is too dull: %d, %v", c.Status(), c.Durable())
		}
		for k, crash := range crashed(c) {
			for at := k % 2; at < len(script); at += 2 {
				w := watched(t, j, l, s)
				do(w.Cluster, script[:at]...)
				if at%4 == 0 { // it takes long
					w.holds()
				}
				if w.Status() == api.Finished {
					break
				}
				do(w.Cluster, crash...)
				if ends(t, "P30.5", w.Cluster, j, l, s); t.Failed() {
					t.Fatalf("P30.5: %v at %d", crash, at)
				}
				w.holds()
				if !bags(w.Sink(2), w.all[2]) {
					t.Fatalf("P30.5: %v at %d: %v, wanted %v", crash, at, w.Sink(2), w.all[2])
				}
			}
		}
	}
}

// TestTotal: jobs, logs, settings, events of all sorts.
func TestTotal(t *testing.T) {
	for seed := range int64(400) {
		r := rand.New(rand.NewSource(seed))
		odd := func() int { return []int{0, 1, -1, 2, 3, 5, 64, 4096, math.MaxInt, math.MinInt}[r.Intn(10)] }
		j := someJob(r, 4)
		l := someLogs(r, j, 4, r.Intn(2) == 0)
		n := &j.Nodes[r.Intn(len(j.Nodes))]
		switch r.Intn(12) {
		case 0:
			n.Kind = odd()
		case 1:
			n.In = append(n.In, odd())
		case 2:
			n.Par = odd()
		case 3:
			n.E = x(odd(), c(1))
		case 4:
			n.Agg = odd()
		case 5:
			n.Win.Kind, n.Win.Size = odd(), int64(odd())
		case 6:
			l = l[:r.Intn(len(l)+1)]
		case 7:
			l[0] = append(l[0], []api.Item{mark(int64(odd()))})
		}
		s := api.Settings{Credits: odd(), Interval: odd(), Timeout: odd(), Over: odd(), Keep: odd(), Room: odd()}
		k := cluster.New(j, l, s)
		b := make([]byte, r.Intn(600))
		r.Read(b)
		status, _ := cluster.Run(j, l, s, b)
		for range 200 {
			k.Do(ev(odd(), odd(), odd()))
			k.Do(ev(r.Intn(10), odd(), odd()))
			k.Do(ev(r.Intn(5), r.Intn(9), r.Intn(9)))
		}
		rounds(k, 3)
		look(k, len(j.Nodes))
		for _, i := range []int{odd(), odd(), odd()} {
			k.Sink(i)
			k.Upto(i, uint64(odd()))
			k.Panes(i, uint64(odd()))
			k.Offsets(uint64(odd()))
			k.Over(uint64(odd()))
		}
		refused := job.Check(j) != api.OK || job.Logs(j, l) != api.OK
		if (k.Status() == api.Rejected) != refused || (status == api.Rejected) != refused || (cluster.Bound(j, l, s) == 0) != refused {
			t.Fatalf("P30.9: seed %d: %d, %d", seed, k.Status(), status)
		}
	}
}
