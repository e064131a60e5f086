package sink_test

import (
	"math"
	"runtime"
	"slices"
	"testing"

	"leat/api"
	"leat/sink"
)

const most = math.MaxUint64

// recs: a record of each key; unlike keys make unlike records.
func recs(keys ...int64) []api.Record {
	var l []api.Record
	for _, k := range keys {
		l = append(l, api.Record{Key: k, Time: k * 3, Val: -k})
	}
	return l
}

func stages(t *testing.T, what string, l *sink.Log, part int, n uint64, keys ...int64) {
	t.Helper()
	if e := l.Stage(part, n, recs(keys...)); e != api.OK {
		t.Errorf("%s: Stage(%d, %d): %v", what, part, n, e)
	}
}

func commits(t *testing.T, what string, l *sink.Log, part int, n uint64) {
	t.Helper()
	if e := l.Commit(part, n); e != api.OK {
		t.Errorf("%s: Commit(%d, %d): %v", what, part, n, e)
	}
}

// refusesStage: of whatever records; and nothing changes.
func refusesStage(t *testing.T, what string, l *sink.Log, part int, numbers ...uint64) {
	t.Helper()
	was := look(l)
	for _, n := range numbers {
		for _, list := range [][]api.Record{nil, {}, recs(99), recs(1, 2, 3)} {
			if e := l.Stage(part, n, list); e != api.ErrSinkOrder {
				t.Errorf("%s: Stage(%d, %d): %v, wanted %v", what, part, n, e, api.ErrSinkOrder)
			}
		}
	}
	was.same(t, what, l)
}

// refusesCommit: and nothing changes.
func refusesCommit(t *testing.T, what string, l *sink.Log, part int, numbers ...uint64) {
	t.Helper()
	was := look(l)
	for _, n := range numbers {
		if e := l.Commit(part, n); e != api.ErrSinkNone {
			t.Errorf("%s: Commit(%d, %d): %v, wanted %v", what, part, n, e, api.ErrSinkNone)
		}
	}
	was.same(t, what, l)
}

// doesNothing: to anything that a log tells.
func doesNothing(t *testing.T, what string, l *sink.Log, call func()) {
	t.Helper()
	was := look(l)
	call()
	was.same(t, what, l)
}

func all(t *testing.T, what string, l *sink.Log, keys ...int64) {
	t.Helper()
	if got := l.All(); !slices.Equal(got, recs(keys...)) {
		t.Errorf("%s: All: %v, wanted those of %v", what, got, keys)
	}
}

func upTo(t *testing.T, what string, l *sink.Log, part int, n uint64, keys ...int64) {
	t.Helper()
	if got := l.Upto(part, n); !slices.Equal(got, recs(keys...)) {
		t.Errorf("%s: Upto(%d, %d): %v, wanted those of %v", what, part, n, got, keys)
	}
}

// stands: a part's greatest committed number, and the staged ones.
func stands(t *testing.T, what string, l *sink.Log, part int, last uint64, staged ...uint64) {
	t.Helper()
	if got := l.Last(part); got != last {
		t.Errorf("%s: Last(%d): %d, wanted %d", what, part, got, last)
	}
	if got := l.Staged(part); !slices.Equal(got, staged) {
		t.Errorf("%s: Staged(%d): %v, wanted %v", what, part, got, staged)
	}
}

var someParts = []int{math.MinInt, -7, -1, 0, 1, 2, 3, 5, 1 << 32, math.MaxInt}

var someNumbers = []uint64{0, 1, 2, 3, 4, 5, 6, 7, 8, 9, 10, 11, 12, 1 << 32, 1 << 63, most - 1, most}

// looked: all that a log tells, of some parts and numbers.
type looked struct {
	all    []api.Record
	last   map[int]uint64
	staged map[int][]uint64
	upTo   map[int]map[uint64][]api.Record
}

func look(l *sink.Log) looked {
	got := looked{all: l.All(), last: map[int]uint64{}, staged: map[int][]uint64{}, upTo: map[int]map[uint64][]api.Record{}}
	for _, part := range someParts {
		got.last[part] = l.Last(part)
		got.staged[part] = l.Staged(part)
		got.upTo[part] = map[uint64][]api.Record{}
		for _, n := range someNumbers {
			got.upTo[part][n] = l.Upto(part, n)
		}
	}
	return got
}

func (want looked) same(t *testing.T, what string, l *sink.Log) {
	t.Helper()
	got := look(l)
	if !slices.Equal(got.all, want.all) {
		t.Errorf("%s: All: %v, wanted %v", what, got.all, want.all)
	}
	for _, part := range someParts {
		if got.last[part] != want.last[part] || !slices.Equal(got.staged[part], want.staged[part]) {
			t.Errorf("%s: of part %d: Last %d, Staged %v, wanted %d, %v", what, part, got.last[part], got.staged[part], want.last[part], want.staged[part])
		}
		for _, n := range someNumbers {
			if g, w := got.upTo[part][n], want.upTo[part][n]; !slices.Equal(g, w) {
				t.Errorf("%s: Upto(%d, %d): %v, wanted %v", what, part, n, g, w)
			}
		}
	}
}

// spoil: writes over a list and the room behind it.
func spoil[T any](l []T, x T) {
	l = l[:cap(l)]
	for i := range l {
		l[i] = x
	}
}

func inUse() int64 {
	runtime.GC()
	var m runtime.MemStats
	runtime.ReadMemStats(&m)
	return int64(m.HeapAlloc)
}
