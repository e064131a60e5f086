package task

import (
	"slices"

	"leat/api"
)

// Frame: see the chapter.
func (t *Task) Frame(ch int, f api.Frame) ([]api.Out, []api.Record, api.Errno) {
	at := slices.Index(t.to, ch)
	if at < 0 {
		return nil, nil, api.ErrTaskChannel
	}
	s, e := t.gate.Take(at, f)
	if e != api.OK { // it is blocked
		return nil, nil, api.ErrTaskChannel
	}
	out, recs := t.work(s, f.Over)
	t.settle(s.Full)
	return out, recs, api.OK
}

// Blocked: see the chapter.
func (t *Task) Blocked(ch int) bool {
	at := slices.Index(t.to, ch)
	return at >= 0 && t.gate.Blocked(at)
}

// work: what comes of a step of the gate; over: of the frame that came.
func (t *Task) work(s api.Step, over bool) ([]api.Out, []api.Record) {
	switch s.Kind {
	case api.StepRecord:
		return t.tell(t.op.Record(s.Rec))
	case api.StepMark:
		out, recs := t.tell(t.op.Mark(s.Mark))
		return append(out, t.lines.all(api.Frame{Kind: api.FrameMark, Mark: s.Mark})...), recs
	case api.StepBarrier:
		t.begun = keptOfOther(s.N, t.no, t.gate.Marks(), t.op.Panes())
		return t.lines.all(api.Frame{Kind: api.FrameBarrier, N: s.N, Over: over}), nil
	}
	return nil, nil
}

// tell: what the operator answered goes out, or, of a sink, is its own.
func (t *Task) tell(recs []api.Record) ([]api.Out, []api.Record) {
	if t.kind == api.NodeSink {
		return nil, recs
	}
	return t.lines.records(recs), nil
}

// settle: the part that was begun is whole with what was captured, once its checkpoint is full; and it isn't kept behind that, nor behind another one that gave its checkpoint up.
func (t *Task) settle(full uint64) {
	if full != 0 {
		t.whole = t.begun.with(t.captured())
	}
	if t.begun.n != t.gate.Under() {
		t.begun = kept{}
	}
}

// captured: the gate's, by the plan's channels.
func (t *Task) captured() []api.Out {
	l := t.gate.Captured()
	for i := range l {
		l[i].Channel = t.to[l[i].Channel]
	}
	return l
}
