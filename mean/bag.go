package mean

import (
	"cmp"
	"slices"

	"leat/api"
)

// bag: unlike things, in order, each with how often it is there. Once it is made it isn't changed any more, so that several nodes may have one.
type bag[T any] struct {
	order func(a, b T) int
	runs  []run[T]
}

// run: a thing, and how often it is there.
type run[T any] struct {
	thing T
	times int
}

// newBag: of runs in any order, several of one thing too. It goes on with their memory.
func newBag[T any](order func(a, b T) int, runs []run[T]) bag[T] {
	slices.SortFunc(runs, func(a, b run[T]) int { return order(a.thing, b.thing) })
	unlike := runs[:0]
	for _, r := range runs {
		if last := len(unlike) - 1; last >= 0 && order(unlike[last].thing, r.thing) == 0 {
			unlike[last].times += r.times
		} else {
			unlike = append(unlike, r)
		}
	}
	return bag[T]{order: order, runs: unlike}
}

func bagOf[T any](order func(a, b T) int, l []T) bag[T] {
	runs := make([]run[T], len(l))
	for i, x := range l {
		runs[i] = run[T]{thing: x, times: 1}
	}
	return newBag(order, runs)
}

// sum: all bags' things together.
func sum[T any](order func(a, b T) int, bags []bag[T]) bag[T] {
	if len(bags) == 1 {
		return bags[0]
	}
	var runs []run[T]
	for _, b := range bags {
		runs = append(runs, b.runs...)
	}
	return newBag(order, runs)
}

// turned: what becomes of each thing, where anything does.
func (b bag[T]) turned(one func(x T) (T, bool)) bag[T] {
	runs := make([]run[T], 0, len(b.runs))
	for _, r := range b.runs {
		if x, ok := one(r.thing); ok {
			runs = append(runs, run[T]{thing: x, times: r.times})
		}
	}
	return newBag(b.order, runs)
}

// within: whether another bag has each thing at least as often.
func (b bag[T]) within(other bag[T]) bool {
	for _, r := range b.runs {
		if other.count(r.thing) < r.times {
			return false
		}
	}
	return true
}

func (b bag[T]) count(x T) int {
	i, there := slices.BinarySearchFunc(b.runs, x, func(r run[T], x T) int { return b.order(r.thing, x) })
	if !there {
		return 0
	}
	return b.runs[i].times
}

// list: each thing as often as it is there, in order.
func (b bag[T]) list() []T {
	l := make([]T, 0, len(b.runs))
	for _, r := range b.runs {
		for range r.times {
			l = append(l, r.thing)
		}
	}
	return l
}

// byKey: how two records stand to each other; only equal ones are as good as each other.
func byKey(a, b api.Record) int {
	return cmp.Or(
		cmp.Compare(a.Key, b.Key),
		cmp.Compare(a.Time, b.Time),
		cmp.Compare(a.Val, b.Val),
	)
}
