package agg

import (
	"math"

	"leat/api"
)

// monoid: what nothing comes to, what one value comes to, and how two of these are joined. Add is made of join, so that it can't part from Merge.
type monoid[T any] struct {
	zero T
	one  func(val T) T
	join func(a, b T) T
}

func (m monoid[T]) add(acc, val T) T { return m.join(acc, m.one(val)) }

func (m monoid[T]) all(l []T) T {
	acc := m.zero
	for _, val := range l {
		acc = m.add(acc, val)
	}
	return acc
}

// find: an aggregate's monoid, and whether it is one of api's. Of another one it is the monoid that has 0 alone, so that no caller has to ask.
func find(agg int) (monoid[int64], bool) {
	switch agg {
	case api.AggSum:
		return monoid[int64]{zero: 0, one: itself, join: sum}, true
	case api.AggCount:
		return monoid[int64]{zero: 0, one: once, join: sum}, true
	case api.AggMin:
		return monoid[int64]{zero: math.MaxInt64, one: itself, join: lesser}, true
	case api.AggMax:
		return monoid[int64]{zero: math.MinInt64, one: itself, join: greater}, true
	case api.AggXor:
		return monoid[int64]{zero: 0, one: itself, join: unlike}, true
	}
	return monoid[int64]{zero: 0, one: itself, join: nothing}, false
}

func itself(val int64) int64 { return val }

func once(int64) int64 { return 1 }

func sum(a, b int64) int64 { return a + b }

func lesser(a, b int64) int64 { return min(a, b) }

func greater(a, b int64) int64 { return max(a, b) }

func unlike(a, b int64) int64 { return a ^ b }

func nothing(int64, int64) int64 { return 0 }
