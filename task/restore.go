package task

import (
	"slices"

	"leat/api"
	"leat/gate"
	"leat/ops"
)

// Restore: see the chapter. A part doesn't tell its number, so that all numbers may be met from then on.
func (t *Task) Restore(s api.Snap) ([]api.Out, []api.Record, api.Errno) {
	if s.Task != t.no || !t.fits(s) {
		return nil, nil, api.ErrTaskSnap
	}
	t.begun, t.whole = kept{}, kept{}
	if t.isSource() {
		t.read, t.mark, t.told = s.Offset, s.Mark, 0
		return nil, nil, api.OK
	}
	t.goBack(s.Marks, s.Panes)
	out, recs := t.again(s.Captured)
	return out, recs, api.OK
}

// fits: whether it is a part of such a task.
func (t *Task) fits(s api.Snap) bool {
	if t.isSource() {
		return s.Offset >= 0 && s.Offset <= len(t.items) && len(s.Marks)+len(s.Panes)+len(s.Captured) == 0
	}
	return s.Offset == 0 && s.Mark == 0 && len(s.Marks) == len(t.to) && !slices.ContainsFunc(s.Captured, t.isForeign)
}

// isForeign: whether this can't have been captured.
func (t *Task) isForeign(o api.Out) bool {
	return o.F.Kind == api.FrameBarrier || !slices.Contains(t.to, o.Channel)
}

// goBack: gate and operator as they were then. Neither forgets by a Load how far it went: the gate not its barriers, the operator not its greatest mark, which an operator that is made anew is told ahead of the panes, lest it fires them.
func (t *Task) goBack(marks []int64, panes []api.Pane) {
	t.gate = gate.New(len(t.to))
	t.gate.Load(marks)
	if t.isKeyed() {
		t.op = ops.New(t.state)
		t.op.Mark(t.gate.Mark())
		t.op.Load(panes)
	}
}

// again: frames that were captured are worked on.
func (t *Task) again(captured []api.Out) ([]api.Out, []api.Record) {
	var out []api.Out
	var recs []api.Record
	for _, c := range captured {
		o, r, _ := t.Frame(c.Channel, c.F)
		out, recs = append(out, o...), append(recs, r...)
	}
	return out, recs
}
