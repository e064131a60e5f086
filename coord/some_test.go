package coord_test

import (
	"runtime"
	"slices"
	"testing"

	"leat/api"
	"leat/coord"
)

const beyond = 1 << 62 // the least number of which nothing is promised

// to: a message of each task.
func to(kind int, epoch, n uint64, tasks ...int) []api.Control {
	var l []api.Control
	for _, task := range tasks {
		l = append(l, api.Control{Kind: kind, Epoch: epoch, N: n, Task: task})
	}
	return l
}

func tells(t *testing.T, what string, got []api.Control, want ...[]api.Control) {
	t.Helper()
	if w := slices.Concat(want...); !slices.Equal(got, w) {
		t.Errorf("%s: %v, wanted %v", what, got, w)
	}
}

// ticks: so many of them tell the same.
func ticks(t *testing.T, what string, c *coord.Coord, many int, want ...[]api.Control) {
	t.Helper()
	for i := range many {
		if got, w := c.Tick(), slices.Concat(want...); !slices.Equal(got, w) {
			t.Fatalf("%s: tick %d: %v, wanted %v", what, i+1, got, w)
		}
	}
}

func take(c *coord.Coord, kind int, epoch, n uint64, tasks ...int) {
	for _, m := range to(kind, epoch, n, tasks...) {
		c.Take(m)
	}
}

// acks: of the last task alone the number may be told.
func acks(t *testing.T, what string, c *coord.Coord, epoch, n, want uint64, tasks ...int) {
	t.Helper()
	for i, m := range to(api.CtlAck, epoch, n, tasks...) {
		w := uint64(0)
		if i == len(tasks)-1 {
			w = want
		}
		if got, l := c.Take(m); got != w || len(l) > 0 {
			t.Errorf("%s: Take(%v): %d, %v, wanted %d", what, m, got, l, w)
		}
	}
}

// looked: all that a coordinator tells without being told anything.
type looked struct {
	epoch, under, durable uint64
	timeout               int
	settled               bool
}

func look(c *coord.Coord) looked {
	return looked{c.Epoch(), c.Under(), c.Durable(), c.Timeout(), c.Settled()}
}

func (want looked) is(t *testing.T, what string, c *coord.Coord) {
	t.Helper()
	if got := look(c); got != want {
		t.Errorf("%s: %+v, wanted %+v", what, got, want)
	}
}

// passedOver: a message of which nothing comes, told to one of two that are alike: that one goes on as the other does.
func passedOver(t *testing.T, what string, made func() *coord.Coord, m api.Control) {
	t.Helper()
	c, other := made(), made()
	if n, l := c.Take(m); n != 0 || len(l) > 0 {
		t.Errorf("%s: Take(%v): %d, %v", what, m, n, l)
	}
	goOnAlike(t, what, c, other)
}

// goOnAlike: through ticks, each ack by turns, a Stored, each ready and each done.
func goOnAlike(t *testing.T, what string, c, other *coord.Coord) {
	t.Helper()
	look(other).is(t, what, c)
	for range 12 {
		tells(t, what, c.Tick(), other.Tick())
		for _, kind := range []int{api.CtlReady, api.CtlAck, api.CtlDone} {
			for task := range 5 {
				n := c.Under()
				if kind != api.CtlAck {
					n = c.Durable()
				}
				m := api.Control{Kind: kind, Epoch: c.Epoch(), N: n, Task: task}
				got, l := c.Take(m)
				want, _ := other.Take(m)
				if got != want || len(l) > 0 {
					t.Errorf("%s: then Take(%v): %d, %v, wanted %d", what, m, got, l, want)
				}
				look(other).is(t, what, c)
			}
		}
		n := c.Under()
		tells(t, what, c.Stored(n, true), other.Stored(n, true))
		look(other).is(t, what, c)
		if t.Failed() {
			return
		}
	}
}

// begun: in epoch 1, from the given number, all ready.
func begun(tasks, sinks []int, interval, timeout int, from uint64) *coord.Coord {
	c := coord.New(tasks, sinks, interval, timeout)
	c.Begin(1, from, from)
	take(c, api.CtlReady, 1, from, tasks...)
	return c
}

// spoil: writes over a list and the room behind it.
func spoil[T any](l []T, x T) {
	l = l[:cap(l)]
	for i := range l {
		l[i] = x
	}
}

func inUse() int64 {
	runtime.GC()
	var m runtime.MemStats
	runtime.ReadMemStats(&m)
	return int64(m.HeapAlloc)
}
