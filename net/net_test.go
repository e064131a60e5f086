package net_test

import (
	"math"
	"runtime"
	"slices"
	"testing"
	"weak"

	"leat/api"
	"leat/net"
)

// holds: the link has that epoch and just these things under way, by each call that tells of them.
func holds[T comparable](t *testing.T, what string, l *net.Link[T], epoch uint64, want ...T) {
	t.Helper()
	if l.Epoch() != epoch {
		t.Errorf("%s: Epoch %d, wanted %d", what, l.Epoch(), epoch)
	}
	if l.Len() != len(want) {
		t.Errorf("%s: Len %d, wanted %d", what, l.Len(), len(want))
	}
	if got := l.All(); !slices.Equal(got, want) {
		t.Errorf("%s: All %v, wanted %v", what, got, want)
	}
}

func answers(t *testing.T, what string, got, want api.Errno) {
	t.Helper()
	if got != want {
		t.Errorf("%s: %v, wanted %v", what, got, want)
	}
}

func delivers[T comparable](t *testing.T, what string, l *net.Link[T], want ...T) {
	t.Helper()
	for _, w := range want {
		if x, e := l.Deliver(); x != w || e != api.OK {
			t.Errorf("%s: Deliver: %v, %v, wanted %v", what, x, e, w)
		}
	}
}

func deliversNone[T comparable](t *testing.T, what string, l *net.Link[T]) {
	t.Helper()
	var none T
	if x, e := l.Deliver(); x != none || e != api.ErrNetEmpty {
		t.Errorf("%s: Deliver: %v, %v, wanted ErrNetEmpty", what, x, e)
	}
}

func TestNumbersOfErrors(t *testing.T) {
	if api.ErrNetEpoch != 51 || api.ErrNetEmpty != 52 {
		t.Error("P5.1: the numbers of the errors")
	}
}

func TestSendAndDeliver(t *testing.T) {
	l := net.New[string](3)
	holds(t, "P5.1: new", l, 3)
	deliversNone(t, "P5.1: new", l)
	answers(t, "P5.1: Send a", l.Send(3, "a"), api.OK)
	holds(t, "P5.1: a", l, 3, "a")
	answers(t, "P5.1: Send b", l.Send(3, "b"), api.OK)
	answers(t, "P5.1: Send b again", l.Send(3, "b"), api.OK)
	holds(t, "P5.1: three", l, 3, "a", "b", "b")
	delivers(t, "P5.3", l, "a")
	holds(t, "P5.1: delivered isn't under way", l, 3, "b", "b")
	answers(t, "P5.1: Send c", l.Send(3, "c"), api.OK)
	holds(t, "P5.1: behind all", l, 3, "b", "b", "c")
	delivers(t, "P5.3", l, "b", "b", "c")
	deliversNone(t, "P5.1: all delivered", l)
	holds(t, "P5.1: all delivered", l, 3)
	answers(t, "P5.1: Send d", l.Send(3, "d"), api.OK)
	delivers(t, "P5.3: goes on", l, "d")
}

func TestSendOfAnotherEpoch(t *testing.T) {
	for _, own := range []uint64{0, 1, 7, 1 << 63, math.MaxUint64 - 1, math.MaxUint64} {
		l := net.New[int](own)
		answers(t, "P5.1: its own", l.Send(own, 5), api.OK)
		for _, other := range []uint64{own - 1, own + 1, own ^ 1<<63, own ^ 1<<32, ^own} {
			answers(t, "P5.1: of another epoch", l.Send(other, 6), api.ErrNetEpoch)
			holds(t, "P5.1: of another epoch", l, own, 5)
		}
	}
}

func TestKill(t *testing.T) {
	for _, c := range []struct{ own, kill, then uint64 }{
		{1, 2, 2}, {1, 9, 9}, {0, math.MaxUint64, math.MaxUint64}, {5, 4, 5}, {5, 0, 5}, {5, 5, 5},
		{0, 0, 0}, {math.MaxUint64, 0, math.MaxUint64}, {1 << 63, 1<<63 - 1, 1 << 63}, {1<<63 - 1, 1 << 63, 1 << 63},
	} {
		l := net.New[int](c.own)
		l.Send(c.own, 1)
		l.Send(c.own, 2)
		l.Kill(c.kill)
		holds(t, "P5.1: Kill", l, c.then)
		deliversNone(t, "P5.1: Kill", l)
		if c.own != c.then {
			answers(t, "P5.1: Send of the epoch of before", l.Send(c.own, 3), api.ErrNetEpoch)
		}
		if c.kill != c.then {
			answers(t, "P5.1: Send of an epoch that Kill didn't take", l.Send(c.kill, 3), api.ErrNetEpoch)
		}
		holds(t, "P5.1: refused", l, c.then)
		answers(t, "P5.1: Send behind Kill", l.Send(c.then, 4), api.OK)
		holds(t, "P5.1: Send behind Kill", l, c.then, 4)
		delivers(t, "P5.3: nothing of the epoch of before", l, 4)
		deliversNone(t, "P5.3: nothing of the epoch of before", l)
	}
}

func TestKillOfNone(t *testing.T) {
	l := net.New[int](1)
	l.Kill(3)
	l.Kill(2)
	holds(t, "P5.1: Kill of none", l, 3)
	l.Send(3, 1)
	l.Kill(3)
	l.Kill(4)
	holds(t, "P5.1: Kill and Kill", l, 4)
}

func TestExample(t *testing.T) {
	l := net.New[rune](1)
	answers(t, "example: Send a", l.Send(1, 'a'), api.OK)
	answers(t, "example: Send b", l.Send(1, 'b'), api.OK)
	delivers(t, "example", l, 'a')
	l.Kill(2)
	deliversNone(t, "example", l)
	answers(t, "example: Send c", l.Send(1, 'c'), api.ErrNetEpoch)
}

// TestManyUnderWay: a link isn't bounded, as a ring is.
func TestManyUnderWay(t *testing.T) {
	const many = 3<<16 + 5
	l := net.New[int](1)
	var want []int
	for i := range many {
		answers(t, "P5.1: Send", l.Send(1, i), api.OK)
		want = append(want, i)
	}
	holds(t, "P5.1: many", l, 1, want...)
	delivers(t, "P5.3: many", l, want[:many/2]...)
	holds(t, "P5.1: half of many", l, 1, want[many/2:]...)
	answers(t, "P5.1: Send behind many", l.Send(1, -1), api.OK)
	delivers(t, "P5.3: the rest", l, want[many/2:]...)
	delivers(t, "P5.3: the last", l, -1)
	deliversNone(t, "P5.1: many delivered", l)
	for i := range many {
		l.Send(1, i)
	}
	l.Kill(2)
	holds(t, "P5.1: Kill of many", l, 2)
	deliversNone(t, "P5.1: Kill of many", l)
}

func TestAllIsItsOwn(t *testing.T) {
	l := net.New[int](1)
	for i := range 3 {
		l.Send(1, i)
	}
	list := l.All()
	list[0] = 9
	_ = append(list[:1], 9, 9, 9, 9)
	holds(t, "DOC 3: an answer changed", l, 1, 0, 1, 2)
	other := l.All()
	delivers(t, "P5.1", l, 0)
	l.Send(1, 3)
	l.Send(1, 4)
	if !slices.Equal(other, []int{0, 1, 2}) {
		t.Errorf("DOC 3: an answer of before: %v", other)
	}
	l.Kill(2)
	l.Send(2, 7)
	if !slices.Equal(other, []int{0, 1, 2}) {
		t.Errorf("DOC 3: an answer of before Kill: %v", other)
	}
}

// TestThingsOfAllKinds: nothing is asked of a thing but that it is one.
func TestThingsOfAllKinds(t *testing.T) {
	list := []int{1, 2}
	lists := net.New[[]int](1)
	lists.Send(1, list)
	lists.Send(1, nil)
	if x, e := lists.Deliver(); e != api.OK || &x[0] != &list[0] {
		t.Error("DOC 3: a thing isn't as it was sent")
	}
	if x, e := lists.Deliver(); e != api.OK || x != nil {
		t.Error("P5.1: nil is a thing")
	}
	anything := net.New[any](1)
	anything.Send(1, nil)
	holds(t, "P5.1: nil is a thing", anything, 1, nil)
	delivers(t, "P5.1: nil is a thing", anything, nil)
	nothing := net.New[struct{}](1)
	nothing.Send(1, struct{}{})
	nothing.Send(1, struct{}{})
	holds(t, "P5.1: things without bytes", nothing, 1, struct{}{}, struct{}{})
	great := net.New[[1 << 17]byte](1)
	great.Send(1, [1 << 17]byte{5: 5})
	if x, e := great.Deliver(); e != api.OK || x[5] != 5 {
		t.Error("P5.1: great things")
	}
	functions := net.New[func() int](1)
	functions.Send(1, func() int { return 5 })
	if f, e := functions.Deliver(); e != api.OK || f() != 5 {
		t.Error("P5.1: functions")
	}
}

func TestLinksAreApart(t *testing.T) {
	a, b := net.New[int](1), net.New[int](1)
	a.Send(1, 1)
	b.Send(1, 2)
	b.Kill(2)
	b.Send(2, 3)
	holds(t, "P5.1: one", a, 1, 1)
	holds(t, "P5.1: other", b, 2, 3)
}

// TestWhatIsGoneIsntHeld: neither by Deliver nor by Kill; what is under way is.
func TestWhatIsGoneIsntHeld(t *testing.T) {
	l := net.New[*[64]byte](1)
	var seen []weak.Pointer[[64]byte]
	for range 2000 {
		x := new([64]byte)
		seen = append(seen, weak.Make(x))
		l.Send(1, x)
	}
	for range 1300 {
		l.Deliver()
	}
	runtime.GC()
	for i, p := range seen {
		if gone := p.Value() == nil; gone != (i < 1300) {
			t.Fatalf("P5.1: the %d-th thing, behind 1300 Delivers, gone: %v", i, gone)
		}
	}
	l.Kill(1)
	runtime.GC()
	for i, p := range seen {
		if p.Value() != nil {
			t.Fatalf("P5.1: the %d-th thing, behind Kill, is held", i)
		}
	}
	runtime.KeepAlive(l)
}

// TestManyGoneBy: what is kept goes with what is under way, not with what was.
func TestManyGoneBy(t *testing.T) {
	var before, behind runtime.MemStats
	runtime.GC()
	runtime.ReadMemStats(&before)
	l, c := net.New[int](1), net.NewCloud[int]()
	for range 2000 {
		for i := range 2000 {
			l.Send(1, i)
			c.Send(1, i)
		}
		for l.Len() > 3 {
			l.Deliver()
			c.Pick(5, 0)
		}
	}
	runtime.GC()
	runtime.ReadMemStats(&behind)
	if l.Len() != 3 || c.Len() != 3 {
		t.Errorf("P5.1: Len %d, %d", l.Len(), c.Len())
	}
	if behind.HeapAlloc > before.HeapAlloc+1<<18 {
		t.Errorf("three things under way hold %d bytes", behind.HeapAlloc-before.HeapAlloc)
	}
	runtime.KeepAlive(l)
	runtime.KeepAlive(c)
}
