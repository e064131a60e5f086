package sink_test

import (
	"math"
	"slices"
	"testing"

	"leat/api"
	"leat/sink"
)

func TestNumbersOfErrors(t *testing.T) {
	if api.ErrSinkOrder != 170 || api.ErrSinkNone != 171 {
		t.Error("P17.1: the numbers of the errors")
	}
}

// TestExample: the chapter's.
func TestExample(t *testing.T) {
	l := sink.New()
	stages(t, "example", l, 0, 1, 'a')
	stages(t, "example", l, 0, 2, 'b')
	commits(t, "example", l, 0, 1)
	l.Abort(0, 1)
	stages(t, "example", l, 0, 2, 'c')
	commits(t, "example", l, 0, 2)
	commits(t, "example", l, 0, 2)
	all(t, "example", l, 'a', 'c')
}

// TestReadme: what README.md tells of a log.
func TestReadme(t *testing.T) {
	l := sink.New()
	a, b, c := api.Record{Key: 1}, api.Record{Key: 2}, api.Record{Key: 3}
	l.Stage(0, 1, []api.Record{a})
	l.Stage(0, 2, []api.Record{b})
	if e := l.Stage(0, 2, nil); e != api.ErrSinkOrder {
		t.Errorf("the same number: %v", e)
	}
	if e := l.Commit(0, 1); e != api.OK {
		t.Errorf("Commit: %v", e)
	}
	l.Abort(0, 1)
	l.Stage(0, 2, []api.Record{c})
	stands(t, "README", l, 0, 1, 2)
	if got := l.Upto(0, 2); !slices.Equal(got, []api.Record{a, c}) {
		t.Errorf("Upto: %v", got)
	}
	l.Commit(0, 2)
	if e := l.Commit(0, 2); e != api.OK {
		t.Errorf("Commit again: %v", e)
	}
	if got := l.All(); !slices.Equal(got, []api.Record{a, c}) {
		t.Errorf("All: %v", got)
	}
}

func TestNew(t *testing.T) {
	l := sink.New()
	all(t, "P17.2: at first", l)
	for _, part := range someParts {
		stands(t, "P17.2: at first", l, part, 0)
		for _, n := range someNumbers {
			upTo(t, "P17.2: at first", l, part, n)
		}
	}
}

func TestStage(t *testing.T) {
	l := sink.New()
	refusesStage(t, "P17.1: no number", l, 0, 0)
	stages(t, "P17.1: the first number", l, 0, 3, 30, 31)
	stands(t, "P17.1: staged", l, 0, 0, 3)
	all(t, "P17.1: staged only", l)
	refusesStage(t, "P17.1: not above a staged one", l, 0, 0, 1, 2, 3)
	stages(t, "P17.1: the next number", l, 0, 4, 40)
	refusesStage(t, "P17.1: not above a staged one", l, 0, 0, 1, 2, 3, 4)
	stages(t, "P17.1: a number is left out", l, 0, 8)
	stands(t, "P17.1: staged", l, 0, 0, 3, 4, 8)
	refusesStage(t, "P17.1: between staged ones", l, 0, 5, 6, 7, 8)
	stages(t, "P17.1: the greatest number", l, 0, most, 90)
	refusesStage(t, "P17.1: none is above", l, 0, 0, 1, 9, most-1, most)
	stands(t, "P17.1: staged", l, 0, 0, 3, 4, 8, most)
	upTo(t, "P17.2: as they were staged", l, 0, most, 30, 31, 40, 90)
}

func TestStageBehindCommit(t *testing.T) {
	l := sink.New()
	stages(t, "P17.1", l, 0, 3, 30)
	stages(t, "P17.1", l, 0, 5, 50)
	commits(t, "P17.1", l, 0, 3)
	refusesStage(t, "P17.1: not above a staged one", l, 0, 0, 1, 3, 4, 5)
	commits(t, "P17.1", l, 0, 5)
	refusesStage(t, "P17.1: not above a committed one", l, 0, 0, 1, 3, 4, 5)
	stages(t, "P17.1: above a committed one", l, 0, 6, 60)
	l.Abort(0, 0)
	refusesStage(t, "P17.1: not above a committed one, the staged ones gone", l, 0, 0, 4, 5)
	stages(t, "P17.1: above a committed one", l, 0, 6, 61)
	upTo(t, "P17.2", l, 0, 6, 30, 50, 61)
}

// TestParts: any number is a part; a part knows nothing of the others' numbers.
func TestParts(t *testing.T) {
	l := sink.New()
	for i, part := range someParts {
		stages(t, "P17.1: any part", l, part, 1, int64(i))
		stages(t, "P17.1: any part", l, part, uint64(i+2), int64(i+100))
	}
	for i, part := range someParts {
		stands(t, "P17.1: any part", l, part, 0, 1, uint64(i+2))
		upTo(t, "P17.2: of a part alone", l, part, most, int64(i), int64(i+100))
	}
	var keys []int64
	for i, part := range slices.Backward(someParts) {
		commits(t, "P17.1: any part", l, part, 1)
		keys = append(keys, int64(i))
		all(t, "P17.2: in the order of commits", l, keys...)
		stands(t, "P17.1: any part", l, part, 1, uint64(i+2))
	}
	l.Abort(5, 1)
	stands(t, "P17.1: of the part alone", l, 5, 1)
	stands(t, "P17.1: of the part alone", l, 3, 1, 8)
	stands(t, "P17.1: of the part alone", l, 4, 0)
}

func TestCommit(t *testing.T) {
	l := sink.New()
	for _, n := range []uint64{2, 3, 5, 9} {
		stages(t, "P17.1", l, 0, n, int64(n), int64(n)+10)
	}
	doesNothing(t, "P17.1: 0 is at most what is committed", l, func() { commits(t, "P17.1: 0", l, 0, 0) })
	refusesCommit(t, "P17.1: no such transaction", l, 0, 1, 4, 6, 7, 8, 10, most)
	commits(t, "P17.1: the first one", l, 0, 2)
	all(t, "P17.2", l, 2, 12)
	stands(t, "P17.2", l, 0, 2, 3, 5, 9)
	doesNothing(t, "P17.1: at most what is committed", l, func() {
		for _, n := range []uint64{0, 1, 2} { // 1 never was
			commits(t, "P17.1: again", l, 0, n)
		}
	})
	refusesCommit(t, "P17.1: no such transaction", l, 0, 4, 6, 8, 10, most)
	commits(t, "P17.1: all up to it", l, 0, 5)
	all(t, "P17.2: of one Commit by numbers", l, 2, 12, 3, 13, 5, 15)
	stands(t, "P17.2", l, 0, 5, 9)
	doesNothing(t, "P17.1: at most what is committed", l, func() {
		for n := range uint64(6) {
			commits(t, "P17.1: again", l, 0, n)
		}
	})
	commits(t, "P17.1: the last one", l, 0, 9)
	all(t, "P17.2", l, 2, 12, 3, 13, 5, 15, 9, 19)
	stands(t, "P17.2", l, 0, 9)
	refusesCommit(t, "P17.1: none is there any more", l, 0, 10, most)
}

func TestCommitOfNone(t *testing.T) {
	l := sink.New()
	for _, part := range someParts {
		refusesCommit(t, "P17.1: no part", l, part, 1, 2, most)
		doesNothing(t, "P17.1: 0 of no part", l, func() { commits(t, "P17.1: 0 of no part", l, part, 0) })
	}
	stages(t, "P17.1", l, 0, 1, 1)
	refusesCommit(t, "P17.1: another part's", l, 1, 1)
	l.Abort(0, 0)
	refusesCommit(t, "P17.1: it is gone", l, 0, 1)
	stages(t, "P17.1", l, 0, most, 2)
	refusesCommit(t, "P17.1: below the one there is", l, 0, 1, most-1)
	commits(t, "P17.1: the greatest number", l, 0, most)
	all(t, "P17.2", l, 2)
	stands(t, "P17.2", l, 0, most)
	for _, n := range someNumbers {
		doesNothing(t, "P17.1: at most what is committed", l, func() { commits(t, "P17.1", l, 0, n) })
	}
}

// TestOrderOfCommits: the parts' commits in turn, not the parts' or the numbers' order.
func TestOrderOfCommits(t *testing.T) {
	l := sink.New()
	stages(t, "P17.2", l, 1, 5, 1, 2)
	stages(t, "P17.2", l, 0, 1, 3)
	stages(t, "P17.2", l, 0, 7, 9, 8, 9) // as it was staged: not sorted, doubles too
	stages(t, "P17.2", l, 1, 6, 6)
	commits(t, "P17.2", l, 1, 5)
	commits(t, "P17.2", l, 0, 7)
	commits(t, "P17.2", l, 1, 6)
	all(t, "P17.2: in the order of commits", l, 1, 2, 3, 9, 8, 9, 6)
	upTo(t, "P17.2: of a part", l, 0, most, 3, 9, 8, 9)
	upTo(t, "P17.2: of a part", l, 1, most, 1, 2, 6)
}

func TestAbort(t *testing.T) {
	l := sink.New()
	for _, n := range []uint64{2, 4, 6, 8} {
		stages(t, "P17.1", l, 0, n, int64(n))
		stages(t, "P17.1", l, 1, n, int64(-n))
	}
	commits(t, "P17.1", l, 0, 2)
	for _, n := range []uint64{8, 9, most} {
		doesNothing(t, "P17.1: none is above", l, func() { l.Abort(0, n) })
	}
	l.Abort(0, 7)
	stands(t, "P17.1: those above are gone", l, 0, 2, 4, 6)
	l.Abort(0, 4)
	stands(t, "P17.1: the one itself stays", l, 0, 2, 4)
	doesNothing(t, "P17.1: again", l, func() { l.Abort(0, 4) })
	upTo(t, "P17.2: what is gone isn't told", l, 0, most, 2, 4)
	l.Abort(0, 0)
	stands(t, "P17.1: what is committed stays", l, 0, 2)
	upTo(t, "P17.1: what is committed stays", l, 0, most, 2)
	all(t, "P17.1: what is committed stays", l, 2)
	stands(t, "P17.1: of another part all stay", l, 1, 0, 2, 4, 6, 8)
	refusesCommit(t, "P17.1: they are gone", l, 0, 4, 6, 8)
	for _, part := range someParts {
		if part != 0 && part != 1 {
			doesNothing(t, "P17.1: of no part", l, func() { l.Abort(part, 0) })
		}
	}
}

// TestNumbersAgain: a number that is gone may come again, with other records, and only those are told.
func TestNumbersAgain(t *testing.T) {
	l := sink.New()
	stages(t, "P17.1", l, 0, 3, 1)
	stages(t, "P17.1", l, 0, 7, 2)
	stages(t, "P17.1", l, 0, 9, 3)
	l.Abort(0, 3)
	refusesStage(t, "P17.1: not above what stayed", l, 0, 0, 2, 3)
	stages(t, "P17.1: between what stayed and what is gone", l, 0, 5, 4)
	stages(t, "P17.1: what is gone", l, 0, 7, 5)
	stands(t, "P17.1: again", l, 0, 0, 3, 5, 7)
	commits(t, "P17.1: again", l, 0, 7)
	all(t, "P17.1: again", l, 1, 4, 5)
	l.Abort(0, 0)
	stages(t, "P17.1: what is gone", l, 0, 9, 6)
	l.Abort(0, 0)
	l.Abort(0, 0)
	stages(t, "P17.1: what is gone", l, 0, 8, 7)
	upTo(t, "P17.2", l, 0, most, 1, 4, 5, 7)
	l = sink.New()
	stages(t, "P17.1", l, -3, 5, 1)
	l.Abort(-3, 4)
	stands(t, "P17.1: all of a part are gone", l, -3, 0)
	stages(t, "P17.1: all of a part are gone", l, -3, 1, 2)
	commits(t, "P17.1", l, -3, 1)
	all(t, "P17.2", l, 2)
}

func TestUpto(t *testing.T) {
	l := sink.New()
	for _, n := range []uint64{2, 4, 6, 8} {
		stages(t, "P17.2", l, 0, n, int64(n), 0)
	}
	holds := func(what string) {
		t.Helper()
		for n, keys := range map[uint64][]int64{
			0: nil, 1: nil, 2: {2, 0}, 3: {2, 0}, 4: {2, 0, 4, 0}, 5: {2, 0, 4, 0}, 6: {2, 0, 4, 0, 6, 0}, 7: {2, 0, 4, 0, 6, 0},
			8: {2, 0, 4, 0, 6, 0, 8, 0}, 9: {2, 0, 4, 0, 6, 0, 8, 0}, most: {2, 0, 4, 0, 6, 0, 8, 0},
		} {
			upTo(t, what, l, 0, n, keys...)
			upTo(t, what+": of another part", l, 1, n)
		}
	}
	holds("P17.2: staged")
	for _, n := range []uint64{2, 6, 8} {
		commits(t, "P17.2", l, 0, n)
		holds("P17.2: committed, some of it")
	}
}

// TestWithoutRecords: a transaction without records is one all the same.
func TestWithoutRecords(t *testing.T) {
	l := sink.New()
	if l.Stage(0, 1, nil) != api.OK || l.Stage(0, 2, []api.Record{}) != api.OK || l.Stage(0, 3, recs(5)[:0]) != api.OK {
		t.Error("P17.1: transactions without records")
	}
	stands(t, "P17.2", l, 0, 0, 1, 2, 3)
	refusesStage(t, "P17.1", l, 0, 1, 2, 3)
	commits(t, "P17.1", l, 0, 2)
	stands(t, "P17.2", l, 0, 2, 3)
	refusesStage(t, "P17.1", l, 0, 1, 2, 3)
	doesNothing(t, "P17.1: again", l, func() { commits(t, "P17.1", l, 0, 1) })
	commits(t, "P17.1", l, 0, 3)
	stands(t, "P17.2", l, 0, 3)
	refusesStage(t, "P17.1: not above a committed one", l, 0, 0, 1, 2, 3)
	stages(t, "P17.1", l, 0, 4, 4)
	stages(t, "P17.1", l, 0, 5)
	commits(t, "P17.1", l, 0, 5)
	doesNothing(t, "P17.1: committed", l, func() { l.Abort(0, 0) })
	all(t, "P17.2", l, 4)
	upTo(t, "P17.2", l, 0, 5, 4)
	upTo(t, "P17.2", l, 0, 3)
	stands(t, "P17.2", l, 0, 5)
}

// TestOnce: a Commit that is told again, at once or late, does what one does.
func TestOnce(t *testing.T) {
	for again := range 4 {
		l := sink.New()
		tell := func(part int, n uint64) {
			for range again + 1 {
				commits(t, "P17.3", l, part, n)
			}
		}
		stages(t, "P17.3", l, 0, 1, 1)
		stages(t, "P17.3", l, 0, 2, 2)
		tell(0, 2)
		tell(0, 1) // the elder one was under way for longer
		stages(t, "P17.3", l, 0, 3, 3)
		stages(t, "P17.3", l, 1, 3, 13)
		tell(0, 2)
		stands(t, "P17.3: it commits nothing newer", l, 0, 2, 3)
		tell(1, 3)
		l.Abort(0, 2)
		tell(0, 2)
		stages(t, "P17.3", l, 0, 4, 4)
		tell(0, 4)
		tell(1, 3)
		all(t, "P17.3", l, 1, 2, 13, 4)
		stands(t, "P17.3", l, 0, 4)
		stands(t, "P17.3", l, 1, 3)
	}
}

// TestAllArguments: every call takes all numbers, in each order of two.
func TestAllArguments(t *testing.T) {
	for _, part := range []int{math.MinInt, 0, math.MaxInt} {
		for _, a := range someNumbers {
			for _, b := range someNumbers {
				l := sink.New()
				l.Stage(part, a, recs(1))
				l.Stage(part, b, recs(2))
				l.Abort(part, b)
				l.Commit(part, a)
				l.Abort(part, a)
				l.Commit(part, b)
				var want []int64
				if a > 0 && b >= a { // else a isn't staged, or gone by the first Abort
					want = append(want, 1)
				}
				all(t, "P17.1", l, want...)
				if got := l.Staged(part); len(got) > 0 {
					t.Errorf("P17.1: %d, %d: Staged %v", a, b, got)
				}
			}
		}
	}
}
