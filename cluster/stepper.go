package cluster

import (
	"leat/api"
	"leat/flow"
	"leat/sink"
	"leat/task"
)

// stepper: a task at work in an epoch, of whichever kind its node is.
type stepper interface {
	step(b int) told                  // it reads an item, or works on a frame: the b-th of those that may be taken
	trigger(n uint64, over bool) told // its word to begin a checkpoint
	commit(n uint64) bool             // whether n is committed then
}

// told: what comes of a step: frames that go out, and a part of a checkpoint, if one became whole by it.
type told struct {
	no   int // the task's
	outs []api.Out
	part part
}

// part: a task's part of checkpoint n; 0: none.
type part struct {
	n    uint64
	snap api.Snap
}

// source: what reads items.
type source struct {
	no   int
	task *task.Task
}

func (s source) step(int) told {
	outs, _ := s.task.Read()
	return toldBy(s.no, s.task, outs)
}

func (s source) trigger(n uint64, over bool) told {
	return toldBy(s.no, s.task, s.task.Trigger(n, over))
}

func (s source) commit(uint64) bool { return false }

// worker: what works on frames.
type worker struct {
	no       int
	task     *task.Task
	to       []int // the channels that come to it
	channels []*flow.Channel[api.Frame]
}

func (w *worker) step(b int) told {
	ch, f, ok := w.take(b)
	if !ok {
		return told{}
	}
	outs, _, _ := w.task.Frame(ch, f)
	return toldBy(w.no, w.task, outs)
}

// trigger: only sources begin a checkpoint; to all others it comes by barriers.
func (w *worker) trigger(uint64, bool) told { return told{} }

func (w *worker) commit(uint64) bool { return false }

// take: a frame of the b-th channel that isn't blocked and has one.
func (w *worker) take(b int) (int, api.Frame, bool) {
	var have []int
	for _, ch := range w.to {
		if w.channels[ch].Waiting() > 0 && !w.task.Blocked(ch) {
			have = append(have, ch)
		}
	}
	if len(have) == 0 {
		return 0, api.Frame{}, false
	}
	ch := have[modulo(b, len(have))]
	f, ok := w.channels[ch].Take()
	return ch, f, ok
}

// outlet: a sink's worker: what it is told it lays into transactions, one from checkpoint to checkpoint.
type outlet struct {
	worker
	log  *sink.Log
	part int
	recs []api.Record // behind the newest transaction
	cut  cut
}

// cut: how many of the records stand ahead of unaligned checkpoint n. The task's part of it is kept as the first barrier comes, but told as the last one does: records may come between, and belong to what follows.
type cut struct {
	n  uint64
	at int
}

func (o *outlet) step(b int) told {
	ch, f, ok := o.take(b)
	if !ok {
		return told{}
	}
	if f.Kind == api.FrameBarrier && f.Over && f.N > o.cut.n {
		o.cut = cut{n: f.N, at: len(o.recs)}
	}
	_, recs, _ := o.task.Frame(ch, f)
	o.recs = append(o.recs, recs...)
	t := toldBy(o.no, o.task, nil)
	if t.part.n != 0 {
		o.stage(t.part.n)
	}
	return t
}

// stage: ahead of the part's being laid, so that of a checkpoint that is durable each sink can commit.
func (o *outlet) stage(n uint64) {
	at := len(o.recs)
	if o.cut.n == n {
		at = o.cut.at
	}
	o.log.Stage(o.part, n, o.recs[:at])
	o.recs = append([]api.Record(nil), o.recs[at:]...)
}

func (o *outlet) commit(n uint64) bool { return o.log.Commit(o.part, n) == api.OK }

// toldBy: what a task tells beside the frames that go out.
func toldBy(no int, t *task.Task, outs []api.Out) told {
	n, snap, _ := t.Snap()
	return told{no: no, outs: outs, part: part{n: n, snap: snap}}
}
