package task

import (
	"leat/api"
)

// Read: see the chapter.
func (t *Task) Read() ([]api.Out, bool) {
	if t.read == len(t.items) { // all others have none
		return nil, false
	}
	it := t.items[t.read]
	t.read++
	switch {
	case it.Kind == api.ItemRecord && it.Rec.Time > t.mark:
		return t.lines.records([]api.Record{it.Rec}), true
	case it.Kind == api.ItemMark && it.Mark > t.mark:
		t.mark = it.Mark
		return t.lines.all(api.Frame{Kind: api.FrameMark, Mark: it.Mark}), true
	}
	return nil, true
}

// Trigger: see the chapter. No checkpoint has the number 0.
func (t *Task) Trigger(n uint64, over bool) []api.Out {
	if !t.isSource() || n <= t.told {
		return nil
	}
	t.told = n
	t.whole = keptOfSource(n, t.no, t.read, t.mark)
	return t.lines.all(api.Frame{Kind: api.FrameBarrier, N: n, Over: over})
}
