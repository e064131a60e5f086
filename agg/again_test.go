package agg_test

import (
	"math/big"
	"math/rand"
	"slices"
	"testing"

	"leat/agg"
	"leat/api"
)

// wrapped: a number without bounds, modulo 2^64, as an int64.
func wrapped(n *big.Int) int64 {
	n = new(big.Int).And(n, new(big.Int).SetUint64(1<<64-1))
	return int64(n.Uint64())
}

func bigSum(l []int64) *big.Int {
	n := new(big.Int)
	for _, x := range l {
		n.Add(n, big.NewInt(x))
	}
	return n
}

// plainAll: of a list that has something in it, by other means than one value at a time.
func plainAll(a int, l []int64) int64 {
	switch a {
	case api.AggSum:
		return wrapped(bigSum(l))
	case api.AggCount:
		return int64(len(l))
	case api.AggMin:
		return slices.Sorted(slices.Values(l))[0]
	case api.AggMax:
		return slices.Sorted(slices.Values(l))[len(l)-1]
	}
	var n int64
	for bit := range 64 {
		odd := 0
		for _, x := range l {
			odd += int(x >> bit & 1)
		}
		n |= int64(odd%2) << bit
	}
	return n
}

func someNumber(r *rand.Rand) int64 {
	switch r.Intn(3) {
	case 0:
		return edges[r.Intn(len(edges))]
	case 1:
		return int64(r.Intn(9) - 4)
	}
	return int64(r.Uint64())
}

func someList(r *rand.Rand, size int) []int64 {
	l := make([]int64, size)
	for i := range l {
		l[i] = someNumber(r)
	}
	return l
}

func TestAllAgain(t *testing.T) {
	r := rand.New(rand.NewSource(10))
	for range 5000 {
		l := someList(r, 1+r.Intn(12))
		for _, a := range aggs {
			want := plainAll(a, l)
			acc := agg.Zero(a)
			for _, x := range l {
				acc = agg.Add(a, acc, x)
			}
			if got := agg.All(a, l); got != want || acc != want {
				t.Fatalf("P10.1: All(%d, %v): %d, Add by Add %d, wanted %d", a, l, got, acc, want)
			}
		}
	}
}

// TestLaws: over all edges, three at a time.
func TestLaws(t *testing.T) {
	for _, a := range aggs {
		zero := agg.Zero(a)
		for _, x := range edges {
			if agg.Merge(a, x, zero) != x || agg.Merge(a, zero, x) != x {
				t.Errorf("P10.2: Merge(%d, ..) of %d and Zero: %d and %d", a, x, agg.Merge(a, x, zero), agg.Merge(a, zero, x))
			}
			for _, y := range edges {
				xy := agg.Merge(a, x, y)
				if yx := agg.Merge(a, y, x); xy != yx {
					t.Errorf("P10.2: Merge(%d, ..) of %d and %d: %d, the other way round %d", a, x, y, xy, yx)
				}
				for _, z := range edges {
					if left, right := agg.Merge(a, xy, z), agg.Merge(a, x, agg.Merge(a, y, z)); left != right {
						t.Errorf("P10.2: Merge(%d, ..) of %d, %d and %d: %d, grouped otherwise %d", a, x, y, z, left, right)
					}
				}
			}
		}
	}
}

// TestLists: a list that is cut and shuffled anyhow comes to the same.
func TestLists(t *testing.T) {
	r := rand.New(rand.NewSource(102))
	for range 5000 {
		l := someList(r, r.Intn(12))
		cut := r.Intn(len(l) + 1)
		shuffled := slices.Clone(l)
		r.Shuffle(len(l), func(i, k int) { shuffled[i], shuffled[k] = shuffled[k], shuffled[i] })
		for _, a := range aggs {
			want := agg.All(a, l)
			if got := agg.Merge(a, agg.All(a, l[:cut]), agg.All(a, l[cut:])); got != want {
				t.Fatalf("P10.2: Merge(%d, ..) of All of %v and of %v: %d, All of both %d", a, l[:cut], l[cut:], got, want)
			}
			if got := agg.All(a, shuffled); got != want {
				t.Fatalf("P10.2: All(%d, %v): %d, of %v %d", a, shuffled, got, l, want)
			}
		}
	}
}

// TestLeftAlone: a list and the room behind it stay, and the same call answers the same again.
func TestLeftAlone(t *testing.T) {
	r := rand.New(rand.NewSource(30))
	for range 500 {
		whole := someList(r, 12)
		size := r.Intn(len(whole) + 1)
		was := slices.Clone(whole)
		for _, a := range append(slices.Clone(aggs), strange...) {
			if x, y := agg.All(a, whole[:size]), agg.All(a, whole[:size]); x != y {
				t.Fatalf("P10.1: All(%d, %v): %d, and again %d", a, whole[:size], x, y)
			}
			if !slices.Equal(whole, was) {
				t.Fatalf("P10.1: All(%d, ..) changed what it was handed: %v to %v", a, was, whole)
			}
		}
	}
}
