package agg_test

import (
	"math"
	"testing"

	"leat/agg"
	"leat/api"
)

// aggs: all of api's.
var aggs = []int{api.AggSum, api.AggCount, api.AggMin, api.AggMax, api.AggXor}

// strange: numbers that are no aggregate, some of them like one in their lowest bits.
var strange = []int{math.MinInt, math.MinInt32, -256 + 1, -5, -1, 0, 6, 7, 256 + 1, 256 + 3, 1<<16 + 2, 1<<32 + 1, 1<<32 + 3, 1<<32 + 4, 1 << 60, math.MaxInt}

// edges: where sums wrap round and bits turn.
var edges = []int64{math.MinInt64, math.MinInt64 + 1, math.MinInt32, -256, -2, -1, 0, 1, 2, 5, 255, math.MaxInt32, 1 << 32, math.MaxInt64 - 1, math.MaxInt64}

func is(t *testing.T, what string, got, want int64) {
	t.Helper()
	if got != want {
		t.Errorf("%s: %d, wanted %d", what, got, want)
	}
}

func TestExamples(t *testing.T) {
	is(t, "P10.1: All(AggCount, 5, 5)", agg.All(api.AggCount, []int64{5, 5}), 2)
	is(t, "P10.2: Merge(AggMin, 3, Zero)", agg.Merge(api.AggMin, 3, agg.Zero(api.AggMin)), 3)
}

func TestIs(t *testing.T) {
	for _, a := range aggs {
		if !agg.Is(a) {
			t.Errorf("P10.1: Is(%d): false, though it is one of api's", a)
		}
	}
	for _, a := range strange {
		if agg.Is(a) {
			t.Errorf("P10.1: Is(%d): true, though it is none of api's", a)
		}
	}
}

func TestZero(t *testing.T) {
	is(t, "P10.1: Zero of a sum", agg.Zero(api.AggSum), 0)
	is(t, "P10.1: Zero of a count", agg.Zero(api.AggCount), 0)
	is(t, "P10.1: Zero of the least", agg.Zero(api.AggMin), 1<<63-1)
	is(t, "P10.1: Zero of the greatest", agg.Zero(api.AggMax), -1<<63)
	is(t, "P10.1: Zero of an xor", agg.Zero(api.AggXor), 0)
}

func TestAdd(t *testing.T) {
	for _, x := range []struct {
		agg            int
		acc, val, want int64
	}{
		{api.AggSum, 3, 4, 7},
		{api.AggSum, 3, -4, -1},
		{api.AggSum, math.MaxInt64, 1, math.MinInt64},
		{api.AggSum, math.MinInt64, -1, math.MaxInt64},
		{api.AggSum, math.MinInt64, math.MinInt64, 0},
		{api.AggCount, 3, 4, 4},
		{api.AggCount, 3, -4, 4},
		{api.AggCount, 3, 0, 4},
		{api.AggCount, -1, 7, 0},
		{api.AggCount, math.MaxInt64, 0, math.MinInt64},
		{api.AggMin, 3, 4, 3},
		{api.AggMin, 4, 3, 3},
		{api.AggMin, -4, 3, -4},
		{api.AggMin, math.MaxInt64, math.MinInt64, math.MinInt64},
		{api.AggMax, 3, 4, 4},
		{api.AggMax, 4, 3, 4},
		{api.AggMax, -4, 3, 3},
		{api.AggMax, math.MinInt64, math.MaxInt64, math.MaxInt64},
		{api.AggXor, 6, 3, 5},
		{api.AggXor, 6, 6, 0},
		{api.AggXor, -1, 1, -2},
		{api.AggXor, math.MinInt64, math.MaxInt64, -1},
	} {
		if got := agg.Add(x.agg, x.acc, x.val); got != x.want {
			t.Errorf("P10.1: Add(%d, %d, %d): %d, wanted %d", x.agg, x.acc, x.val, got, x.want)
		}
	}
}

func TestMerge(t *testing.T) {
	for _, x := range []struct {
		agg        int
		a, b, want int64
	}{
		{api.AggSum, 3, 4, 7},
		{api.AggSum, math.MaxInt64, 1, math.MinInt64},
		{api.AggCount, 3, 4, 7},
		{api.AggCount, 3, 0, 3},
		{api.AggCount, math.MaxInt64, 2, math.MinInt64 + 1},
		{api.AggMin, 3, 4, 3},
		{api.AggMin, 4, -3, -3},
		{api.AggMax, 3, 4, 4},
		{api.AggMax, 4, -3, 4},
		{api.AggXor, 6, 3, 5},
		{api.AggXor, -1, math.MaxInt64, math.MinInt64},
	} {
		if got := agg.Merge(x.agg, x.a, x.b); got != x.want {
			t.Errorf("P10.1: Merge(%d, %d, %d): %d, wanted %d", x.agg, x.a, x.b, got, x.want)
		}
	}
}

func TestAll(t *testing.T) {
	for _, x := range []struct {
		agg  int
		l    []int64
		want int64
	}{
		{api.AggSum, []int64{7, 5, -3, 0}, 9},
		{api.AggSum, []int64{math.MaxInt64, math.MaxInt64, 2}, 0},
		{api.AggCount, []int64{7, 5, -3, 0}, 4},
		{api.AggMin, []int64{7, 5, -3, 0}, -3},
		{api.AggMin, []int64{math.MaxInt64}, math.MaxInt64},
		{api.AggMax, []int64{7, 5, -3, 0}, 7},
		{api.AggMax, []int64{-7, -5, -9}, -5},
		{api.AggMax, []int64{math.MinInt64}, math.MinInt64},
		{api.AggXor, []int64{7, 5, -3, 0}, 7 ^ 5 ^ -3},
		{api.AggXor, []int64{9, 4, 9}, 4},
	} {
		if got := agg.All(x.agg, x.l); got != x.want {
			t.Errorf("P10.1: All(%d, %v): %d, wanted %d", x.agg, x.l, got, x.want)
		}
	}
	for _, a := range aggs {
		if x, y := agg.All(a, nil), agg.All(a, []int64{}); x != agg.Zero(a) || y != x {
			t.Errorf("P10.1: All(%d) of nothing: %d, of nil %d, wanted Zero, %d", a, y, x, agg.Zero(a))
		}
	}
}

// TestNone: what is no aggregate has 0 for all answers.
func TestNone(t *testing.T) {
	for _, a := range strange {
		if x := agg.Zero(a); x != 0 {
			t.Errorf("P10.1: Zero(%d): %d, wanted 0", a, x)
		}
		if x := agg.All(a, edges); x != 0 || agg.All(a, nil) != 0 || agg.All(a, []int64{5}) != 0 {
			t.Errorf("P10.1: All(%d, ..): %d, wanted 0", a, x)
		}
		for _, x := range edges {
			for _, y := range edges {
				if agg.Add(a, x, y) != 0 || agg.Merge(a, x, y) != 0 {
					t.Errorf("P10.1: Add and Merge(%d, %d, %d): %d and %d, wanted 0", a, x, y, agg.Add(a, x, y), agg.Merge(a, x, y))
				}
			}
		}
	}
}

// TestReadme: what README.md tells of aggregates.
func TestReadme(t *testing.T) {
	a := agg.All(api.AggCount, []int64{5, 5})
	b := agg.Add(api.AggCount, agg.Zero(api.AggCount), 7)
	is(t, "P10.1: a", a, 2)
	is(t, "P10.1: b", b, 1)
	is(t, "P10.2: Merge", agg.Merge(api.AggCount, a, b), 3)
}
