package task_test

import (
	"math"
	"slices"
	"testing"

	"leat/api"
	"leat/task"
)

// restores: it takes the part, and tells this then.
func restores(t *testing.T, what string, k *task.Task, s api.Snap, want ...api.Out) {
	t.Helper()
	got, recs, e := k.Restore(s)
	if e != api.OK || len(recs) != 0 {
		t.Errorf("%s: Restore(%+v): %v, %v", what, s, recs, e)
	}
	same(t, what, got, want...)
	noSnap(t, what, k)
	blocks(t, what, k)
}

func noPart(t *testing.T, what string, k *task.Task, s api.Snap) {
	t.Helper()
	if got, recs, e := k.Restore(s); e != api.ErrTaskSnap || len(got)+len(recs) != 0 {
		t.Errorf("%s: Restore(%+v): %v, %v, %v", what, s, got, recs, e)
	}
}

func TestRestoreSource(t *testing.T) {
	items := []api.Item{rec(0, 5, 2), read(9), rec(1, 7, 3), rec(1, 12, 3), read(end)}
	k := ofFan(t, 0, items...)
	k.Trigger(1, false)
	_, first, _ := k.Snap()
	k.Read()
	k.Read()
	k.Trigger(2, false)
	_, second, _ := k.Snap()
	for range items {
		k.Read()
	}
	k.Trigger(3, false)
	stands(t, "P16.4: at its end", k, end, 5)
	restores(t, "P16.4: back", k, second)
	stands(t, "P16.4: back", k, 9, 2)
	reads(t, "P16.4: late as it was then", k)
	reads(t, "P16.4: the next one", k, out(1, frame(1, 12, 3)))
	restores(t, "P16.4: back to its beginning", k, first)
	stands(t, "P16.4: back to its beginning", k, none, 0)
	reads(t, "P16.4: back to its beginning", k, out(0, frame(0, 5, 2)))
	reads(t, "P16.4: back to its beginning", k, along(mark(9), 0, 1)...)
	same(t, "P16.5: a number is met again when it is restored", k.Trigger(2, true), along(unaligned(2), 0, 1)...)
	snaps(t, "P16.5: a number is met again when it is restored", k, 2, second)
	other := ofFan(t, 0, items...)
	restores(t, "P16.4: another one", other, api.Snap{Offset: 5, Mark: end})
	stands(t, "P16.4: all its items", other, end, 5)
	hasRead(t, "P16.4: all its items", other)
}

func TestNoSourcePart(t *testing.T) {
	k := ofFan(t, 0, rec(0, 5, 2), read(9), rec(1, 12, 3))
	k.Read()
	k.Read()
	k.Trigger(4, false)
	for _, s := range []api.Snap{
		{Task: 1}, {Task: -1}, {Task: math.MaxInt}, {Task: 1 << 32},
		{Offset: 4}, {Offset: math.MaxInt}, {Offset: 1 << 32}, {Offset: -1}, {Offset: math.MinInt},
		{Marks: []int64{none}}, {Panes: []api.Pane{{}}}, {Captured: []api.Out{{}}}, {Captured: along(frame(1, 2, 3), 0)},
		{Offset: 1, Mark: 9, Marks: []int64{1}},
	} {
		noPart(t, "P16.4: no part of a source", k, s)
		stands(t, "P16.4: nothing has changed", k, 9, 2)
	}
	same(t, "P16.4: nothing has changed", k.Trigger(4, false))
	snaps(t, "P16.4: nothing has changed", k, 4, api.Snap{Offset: 2, Mark: 9})
	reads(t, "P16.4: nothing has changed", k, out(1, frame(1, 12, 3)))
	restores(t, "P16.4: as many as its items", k, api.Snap{Offset: 3, Mark: 9, Marks: []int64{}, Panes: []api.Pane{}, Captured: []api.Out{}})
	stands(t, "P16.4: as many as its items", k, 9, 3)
}

func TestNoPart(t *testing.T) {
	part := func(alter func(s *api.Snap)) api.Snap {
		s := api.Snap{Task: 3, Marks: []int64{1, 2}, Panes: []api.Pane{pane(0, 10, 20, 1)}, Captured: along(frame(0, 11, 1), 2, 4)}
		alter(&s)
		return s
	}
	k := ofFan(t, 3)
	restores(t, "P16.4: a part", k, part(func(*api.Snap) {}))
	k.Frame(2, aligned(1))
	k.Frame(4, aligned(1))
	k.Frame(2, aligned(8))
	for _, s := range []api.Snap{
		part(func(s *api.Snap) { s.Task = 4 }),
		part(func(s *api.Snap) { s.Task = -3 }),
		part(func(s *api.Snap) { s.Task = 1<<32 + 3 }),
		part(func(s *api.Snap) { s.Offset = 1 }),
		part(func(s *api.Snap) { s.Offset = -1 }),
		part(func(s *api.Snap) { s.Mark = 1 }),
		part(func(s *api.Snap) { s.Mark = none }),
		part(func(s *api.Snap) { s.Marks = nil }),
		part(func(s *api.Snap) { s.Marks = []int64{1} }),
		part(func(s *api.Snap) { s.Marks = []int64{1, 2, 3} }),
		part(func(s *api.Snap) { s.Captured[1].Channel = 3 }),
		part(func(s *api.Snap) { s.Captured[0].Channel = 6 }),
		part(func(s *api.Snap) { s.Captured[1].Channel = 1 }),
		part(func(s *api.Snap) { s.Captured[1].Channel = -1 }),
		part(func(s *api.Snap) { s.Captured[1].Channel = 1<<32 + 2 }),
		part(func(s *api.Snap) { s.Captured[1].F = aligned(2) }),
		part(func(s *api.Snap) { s.Captured[0].F = unaligned(2) }),
		part(func(s *api.Snap) { s.Captured[0].F = aligned(0) }),
	} {
		noPart(t, "P16.4: no part", k, s)
		stands(t, "P16.4: nothing has changed", k, 1, 0)
		blocks(t, "P16.4: nothing has changed", k, 2)
	}
	loaded := api.Snap{Task: 3, Marks: []int64{1, 2}, Panes: []api.Pane{pane(0, 10, 20, 3)}}
	snaps(t, "P16.4: nothing has changed", k, 1, loaded)
	gives(t, "P16.4: nothing has changed", k, 4, aligned(8), out(6, aligned(8)))
	snaps(t, "P16.4: nothing has changed", k, 8, loaded)
	gives(t, "P16.4: nothing has changed", k, 2, aligned(8))
}

// TestRestoreBack: marks, panes and what is late are as they were then, though it had gone on.
func TestRestoreBack(t *testing.T) {
	k := ofFan(t, 3)
	k.Frame(2, frame(0, 3, 4))
	k.Frame(2, mark(5))
	k.Frame(4, mark(2))
	k.Frame(2, aligned(1))
	k.Frame(4, aligned(1))
	_, s, _ := k.Snap()
	onwards := func(what string, k *task.Task) {
		t.Helper()
		stands(t, what, k, 2, 0)
		gives(t, what+": not late", k, 4, frame(0, 9, 1))
		gives(t, what+": the least one", k, 4, mark(8), out(6, mark(5)))
		gives(t, what+": the number is met", k, 4, aligned(2))
		blocks(t, what, k, 4)
		gives(t, what, k, 2, mark(9), out(6, mark(8)))
		gives(t, what+": the number is met", k, 2, aligned(2), out(6, aligned(2)))
		snaps(t, what, k, 2, api.Snap{Task: 3, Marks: []int64{9, 8}, Panes: []api.Pane{pane(0, 0, 10, 5)}})
		gives(t, what+": fired", k, 4, mark(9), out(6, frame(0, 9, 5)), out(6, mark(9)))
		gives(t, what+": late", k, 4, frame(0, 9, 1))
		gives(t, what+": the end", k, 4, mark(end))
		gives(t, what+": the end", k, 2, mark(end), out(6, mark(end)))
	}
	onwards("P16.2: gone on", k)
	for range 2 {
		restores(t, "P16.4: back", k, s)
		onwards("P16.5: gone on again", k)
	}
	other := ofFan(t, 3)
	restores(t, "P16.4: another one", other, s)
	onwards("P16.5: another one", other)
}

// TestRestoreEnds: nothing is under way behind a restore, and a part that was whole isn't told any more.
func TestRestoreEnds(t *testing.T) {
	empty := api.Snap{Task: 3, Marks: []int64{none, none}}
	k := ofFan(t, 3)
	k.Frame(2, aligned(7))
	restores(t, "P16.4: an aligned one was under way", k, empty)
	gives(t, "P16.4: not blocked", k, 2, frame(0, 1, 1))
	gives(t, "P16.4: the other channel's barrier", k, 4, aligned(7))
	blocks(t, "P16.5: the number is met anew", k, 4)
	restores(t, "P16.4: again", k, empty)
	k.Frame(2, unaligned(7))
	k.Frame(4, frame(0, 1, 1))
	restores(t, "P16.4: an unaligned one was under way", k, empty)
	gives(t, "P16.4: the other channel's barrier", k, 4, unaligned(7), out(6, unaligned(7)))
	noSnap(t, "P16.4: the other channel's barrier", k)
	gives(t, "P16.4: its last one", k, 2, unaligned(7))
	restores(t, "P16.4: a part wasn't told", k, empty)
	k.Frame(2, aligned(1))
	k.Frame(4, aligned(1))
	snaps(t, "P16.4: all panes are gone, nothing is captured", k, 1, empty)
}

// TestRestoreCaptured: each is worked on as by Frame, in order, with the panes and marks that were kept.
func TestRestoreCaptured(t *testing.T) {
	s := api.Snap{Task: 3, Marks: []int64{20, 4}, Panes: []api.Pane{pane(0, 0, 10, 4)}, Captured: []api.Out{
		out(4, frame(2, 8, 1)), out(4, mark(9)), out(4, frame(0, 5, 1)), out(4, frame(0, 12, 7)), out(2, mark(21)), out(4, mark(19)), out(4, mark(3)), out(4, api.Frame{Kind: 9}), out(2, frame(0, 22, 2)),
	}}
	k := ofFan(t, 3)
	for range 2 {
		restores(t, "P16.4: captured", k, s, out(6, frame(0, 9, 4)), out(6, frame(2, 9, 1)), out(6, mark(9)), out(6, frame(0, 19, 7)), out(6, mark(19)))
		stands(t, "P16.4: captured", k, 19, 0)
		gives(t, "P16.4: behind that", k, 2, aligned(1))
		gives(t, "P16.4: behind that", k, 4, aligned(1), out(6, aligned(1)))
		snaps(t, "P16.4: behind that", k, 1, api.Snap{Task: 3, Marks: []int64{21, 19}, Panes: []api.Pane{pane(0, 20, 30, 2)}})
	}
	m := ofFan(t, 2)
	captured := slices.Concat(along(frame(1, 2, 3), 1, 1), along(mark(5), 1))
	told := slices.Concat(along(frame(1, 2, 4), 5, 9), along(frame(1, 2, 4), 5, 9), along(mark(5), 4, 5, 9))
	restores(t, "P16.4: a map's", m, api.Snap{Task: 2, Marks: []int64{none}, Captured: captured}, told...)
	stands(t, "P16.4: a map's", m, 5, 0)
}

func TestRestoreSink(t *testing.T) {
	k := ofFan(t, 5)
	s := api.Snap{Task: 5, Marks: []int64{7, none}, Captured: []api.Out{out(7, frame(1, 9, 2)), out(7, mark(8)), out(7, frame(3, 11, 2)), out(6, frame(0, 9, 4))}}
	got, recs, e := k.Restore(s)
	if e != api.OK || len(got) != 0 {
		t.Errorf("P16.4: %v, %v", got, e)
	}
	same(t, "P16.4: a sink's records", recs, record(1, 9, 2), record(3, 11, 2), record(0, 9, 4))
	stands(t, "P16.4: a sink", k, 7, 0)
}

// TestRestoreMarks: whatever the marks, they are the channels'; at their end panes wait for nothing more.
func TestRestoreMarks(t *testing.T) {
	for _, marks := range [][]int64{{none, none}, {end, none}, {0, 0}, {-5, 3}, {end, end}} {
		k := ofFan(t, 3)
		restores(t, "P16.4: marks", k, api.Snap{Task: 3, Marks: marks, Panes: []api.Pane{pane(0, 0, 10, 4)}})
		stands(t, "P16.4: marks", k, min(marks[0], marks[1]), 0)
		gives(t, "P16.4: marks", k, 4, aligned(1))
		gives(t, "P16.4: marks", k, 2, aligned(1), out(6, aligned(1)))
		snaps(t, "P16.4: marks", k, 1, api.Snap{Task: 3, Marks: marks, Panes: []api.Pane{pane(0, 0, 10, 4)}})
		late := min(marks[0], marks[1]) >= 9
		k.Frame(2, frame(0, 1, 1))
		k.Frame(4, unaligned(2))
		k.Frame(2, unaligned(2))
		if _, s, _ := k.Snap(); len(s.Panes) != 1 || (s.Panes[0].Acc == 4) != late {
			t.Errorf("P16.4: marks %v: %+v", marks, s.Panes)
		}
	}
}

// TestReadme: what README.md tells of tasks.
func TestReadme(t *testing.T) {
	w := windowed(tumbling(10), api.AggSum, 1, 0)
	j, p := taken(t, source(1), w, sink(1, 1))
	src := task.New(j, p, 0, []api.Item{rec(1, 5, 2), read(9)})
	win := task.New(j, p, 1, nil)
	reads(t, "README", src, out(0, frame(1, 5, 2)))
	gives(t, "README", win, 0, frame(1, 5, 2))
	same(t, "README", src.Trigger(1, false), out(0, aligned(1)))
	gives(t, "README", win, 0, aligned(1), out(1, aligned(1)))
	snaps(t, "README", src, 1, api.Snap{Offset: 1, Mark: none})
	s := api.Snap{Task: 1, Marks: []int64{none}, Panes: []api.Pane{pane(1, 0, 10, 2)}}
	snaps(t, "README", win, 1, s)
	reads(t, "README", src, out(0, mark(9)))
	again := task.New(j, p, 1, nil)
	restores(t, "README", again, s)
	gives(t, "README", again, 0, mark(9), out(1, frame(1, 9, 2)), out(1, mark(9)))
	same(t, "README", []int64{again.Mark()}, 9)
}
