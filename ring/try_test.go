package ring_test

import (
	"math"
	"sync"
	"testing"

	"leat/ring"
)

func receives[T comparable](t *testing.T, what string, q *ring.Try[T], want ...T) {
	t.Helper()
	for _, w := range want {
		if x, ok := q.Receive(); x != w || !ok {
			t.Errorf("%s: Receive: %v, %v, wanted %v", what, x, ok, w)
		}
	}
}

func receivesNone[T comparable](t *testing.T, what string, q *ring.Try[T]) {
	t.Helper()
	var none T
	if x, ok := q.Receive(); x != none || ok {
		t.Errorf("%s: Receive: %v, %v, wanted none", what, x, ok)
	}
}

func either[T comparable](t *testing.T, what string, q, o *ring.Try[T], want T, of int) {
	t.Helper()
	if x, n := q.Either(o); x != want || n != of {
		t.Errorf("%s: Either: %v, %d, wanted %v, %d", what, x, n, want, of)
	}
}

func TestSendAndReceive(t *testing.T) {
	q := ring.NewTry[string](2)
	receivesNone(t, "P4.2: new", q)
	says(t, "P4.2: Send a", q.Send("a"), true)
	says(t, "P4.2: Send b", q.Send("b"), true)
	says(t, "P4.2: Send when full", q.Send("c"), false)
	receives(t, "P4.3", q, "a")
	says(t, "P4.2: Send when not full any more", q.Send("d"), true)
	says(t, "P4.2: Send when full again", q.Send("e"), false)
	receives(t, "P4.3", q, "b", "d")
	receivesNone(t, "P4.2: emptied", q)
}

func TestMostOfATry(t *testing.T) {
	for _, c := range []struct{ most, counts int }{
		{math.MinInt, 1}, {-1, 1}, {0, 1}, {1, 1}, {2, 2}, {7, 7}, {greatest - 1, greatest - 1}, {greatest, greatest}, {greatest + 1, greatest}, {math.MaxInt, greatest},
	} {
		q := ring.NewTry[int](c.most)
		n := 0
		for q.Send(n) {
			n++
		}
		if n != c.counts {
			t.Errorf("P4.2: NewTry(%d) took %d, wanted %d", c.most, n, c.counts)
		}
		for i := range n {
			receives(t, "P4.3: the first first", q, i)
		}
		receivesNone(t, "P4.2: emptied", q)
	}
}

// TestEither: many times over, as a choice by chance would be right now and then.
func TestEither(t *testing.T) {
	for range 50 {
		a, b := ring.NewTry[int](2), ring.NewTry[int](2)
		either(t, "P4.2: none", a, b, 0, -1)
		a.Send(1)
		either(t, "P4.2: just t", a, b, 1, 0)
		b.Send(2)
		either(t, "P4.2: just o", a, b, 2, 1)
		either(t, "P4.2: none any more", a, b, 0, -1)
		a.Send(3)
		a.Send(4)
		b.Send(5)
		b.Send(6)
		either(t, "P4.2: both", a, b, 3, 0)
		says(t, "P4.2: o keeps what isn't asked of it", b.Send(7), false)
		either(t, "P4.2: both still", a, b, 4, 0)
		either(t, "P4.2: just o, its first", a, b, 5, 1)
		either(t, "P4.2: just o, turned round", b, a, 6, 0)
		either(t, "P4.2: none at the end", b, a, 0, -1)
	}
}

func TestEitherOfOne(t *testing.T) {
	q := ring.NewTry[int](2)
	either(t, "P4.2: itself, of none", q, q, 0, -1)
	q.Send(5)
	q.Send(6)
	either(t, "P4.2: itself", q, q, 5, 0)
	receives(t, "P4.2: just one is gone", q, 6)
}

func TestATryOfAllKinds(t *testing.T) {
	anything := ring.NewTry[any](1)
	anything.Send(nil)
	receives[any](t, "P4.2: nil is a thing", anything, nil)
	zeros := ring.NewTry[int](2)
	zeros.Send(0)
	either(t, "P4.2: zero is a thing", zeros, zeros, 0, 0)
	nothing := ring.NewTry[struct{}](1)
	says(t, "P4.2: things without bytes", nothing.Send(struct{}{}), true)
	says(t, "P4.2: things without bytes", nothing.Send(struct{}{}), false)
	receives(t, "P4.2: things without bytes", nothing, struct{}{})
	great := ring.NewTry[[1 << 17]byte](greatest)
	great.Send([1 << 17]byte{5: 5})
	if x, ok := great.Receive(); !ok || x[5] != 5 {
		t.Error("P4.2: great things")
	}
	list := []int{1}
	lists := ring.NewTry[[]int](1)
	lists.Send(list)
	if x, ok := lists.Receive(); !ok || &x[0] != &list[0] {
		t.Error("DOC 3: a thing isn't as it was sent")
	}
}

// TestHandedOver: one goroutine sends, another one receives.
func TestHandedOver(t *testing.T) {
	const all = 2000
	q := ring.NewTry[int](all)
	var w sync.WaitGroup
	w.Go(func() {
		for i := range all {
			q.Send(i)
		}
	})
	var got []int
	for range all {
		if x, ok := q.Receive(); ok {
			got = append(got, x)
		}
	}
	w.Wait()
	for x, ok := q.Receive(); ok; x, ok = q.Receive() {
		got = append(got, x)
	}
	if len(got) != all {
		t.Fatalf("P4.3: %d came of %d", len(got), all)
	}
	for i, x := range got {
		if x != i {
			t.Fatalf("P4.3: %d came as the %d-th", x, i)
		}
	}
}
