package task

import (
	"leat/api"
)

// kept: a part of a checkpoint. What it holds is fixed when it is kept; how it is told each kind of task knows, and what comes to it later on is told by one more function around the first.
type kept struct {
	n    uint64
	part func() api.Snap
}

func keptOfSource(n uint64, no, read int, mark int64) kept {
	return kept{n: n, part: func() api.Snap {
		return api.Snap{Task: no, Offset: read, Mark: mark}
	}}
}

func keptOfOther(n uint64, no int, marks []int64, panes []api.Pane) kept {
	return kept{n: n, part: func() api.Snap {
		return api.Snap{Task: no, Marks: marks, Panes: panes}
	}}
}

func (k kept) with(captured []api.Out) kept {
	return kept{n: k.n, part: func() api.Snap {
		s := k.part()
		s.Captured = captured
		return s
	}}
}

// Snap: see the chapter. As it is told once, its lists are the caller's from then on.
func (t *Task) Snap() (uint64, api.Snap, bool) {
	k := t.whole
	t.whole = kept{}
	if k.part == nil {
		return 0, api.Snap{}, false
	}
	return k.n, k.part(), true
}
