package coord_test

import (
	"math"
	"slices"
	"testing"

	"leat/api"
	"leat/coord"
)

// TestExample: the chapter's.
func TestExample(t *testing.T) {
	c := coord.New([]int{0, 1}, []int{1}, 3, 10)
	tells(t, "example", c.Begin(1, 0, 0), to(api.CtlRestore, 1, 0, 0, 1))
	take(c, api.CtlReady, 1, 0, 0, 1)
	ticks(t, "example", c, 2)
	tells(t, "example", c.Tick(), to(api.CtlTrigger, 1, 1, 0, 1))
	acks(t, "example", c, 1, 1, 1, 0, 1)
	tells(t, "example", c.Stored(1, true), to(api.CtlCommit, 1, 1, 1))
}

// TestReadme: what README.md tells of a coordinator.
func TestReadme(t *testing.T) {
	c := coord.New([]int{0, 1}, []int{1}, 2, 10)
	l := c.Begin(1, 0, 0)
	tells(t, "README", l, to(api.CtlRestore, 1, 0, 0, 1))
	c.Take(api.Control{Kind: api.CtlReady, Epoch: 1, Task: 0})
	c.Take(api.Control{Kind: api.CtlReady, Epoch: 1, Task: 1})
	l = c.Tick()
	tells(t, "README", l)
	l = c.Tick()
	tells(t, "README", l, to(api.CtlTrigger, 1, 1, 0, 1))
	n, _ := c.Take(api.Control{Kind: api.CtlAck, Epoch: 1, N: 1, Task: 1})
	if n != 0 {
		t.Errorf("README: %d", n)
	}
	l = c.Tick()
	tells(t, "README", l, to(api.CtlTrigger, 1, 1, 0))
	n, _ = c.Take(api.Control{Kind: api.CtlAck, Epoch: 1, N: 1, Task: 0})
	if n != 1 {
		t.Errorf("README: %d", n)
	}
	l = c.Stored(1, true)
	tells(t, "README", l, to(api.CtlCommit, 1, 1, 1))
	c.Take(api.Control{Kind: api.CtlDone, Epoch: 1, N: 1, Task: 1})
	if !c.Settled() {
		t.Error("README: Settled")
	}
	l = c.Begin(2, 1, 5)
	tells(t, "README", l, to(api.CtlRestore, 2, 1, 0, 1))
	take(c, api.CtlReady, 2, 1, 0, 1)
	c.Tick()
	tells(t, "README: the next number", c.Tick(), to(api.CtlCommit, 2, 1, 1), to(api.CtlTrigger, 2, 6, 0, 1))
}

// TestAheadOfBegin: nothing is told, whatever comes.
func TestAheadOfBegin(t *testing.T) {
	c := coord.New([]int{0, 1}, []int{1}, 1, 7)
	want := looked{timeout: 7}
	want.is(t, "P18.2: ahead of Begin", c)
	for range 3 {
		ticks(t, "P18.2: ahead of Begin", c, 3)
		for _, kind := range []int{api.CtlReady, api.CtlAck, api.CtlDone} {
			acks(t, "P18.3: ahead of Begin", c, 0, 0, 0, 0, 1)
			take(c, kind, 0, 0, 0, 1)
			take(c, kind, 1, 1, 0, 1)
		}
		tells(t, "P18.4: ahead of Begin", c.Stored(0, true))
		tells(t, "P18.4: ahead of Begin", c.Stored(1, true))
		want.is(t, "P18.4: ahead of Begin", c)
	}
	tells(t, "P18.1: epoch 0", c.Begin(0, 3, 9))
	want.is(t, "P18.1: epoch 0", c)
	tells(t, "P18.1: nothing of that counts", c.Begin(1, 0, 0), to(api.CtlRestore, 1, 0, 0, 1))
	tells(t, "P18.1: nothing of that counts", c.Tick(), to(api.CtlRestore, 1, 0, 0, 1))
	take(c, api.CtlReady, 1, 0, 0, 1)
	tells(t, "P18.1: nothing of that counts", c.Tick(), to(api.CtlTrigger, 1, 1, 0, 1))
}

// TestBegin: what was there is gone, whatever it was.
func TestBegin(t *testing.T) {
	tasks, sinks := []int{5, -1, 3}, []int{3, 5}
	lives := map[string]func(c *coord.Coord){
		"some are ready":     func(c *coord.Coord) { take(c, api.CtlReady, 4, 2, 5, 3) },
		"all are ready":      func(c *coord.Coord) { take(c, api.CtlReady, 4, 2, tasks...) },
		"ticks were counted": func(c *coord.Coord) { take(c, api.CtlReady, 4, 2, tasks...); c.Tick() },
		"one is under way": func(c *coord.Coord) {
			take(c, api.CtlReady, 4, 2, tasks...)
			c.Tick()
			c.Tick()
			take(c, api.CtlAck, 4, 10, 5, 3)
		},
		"one is at the store": func(c *coord.Coord) {
			take(c, api.CtlReady, 4, 2, tasks...)
			c.Tick()
			c.Tick()
			take(c, api.CtlAck, 4, 10, tasks...)
		},
		"some were given up": func(c *coord.Coord) {
			take(c, api.CtlReady, 4, 2, tasks...)
			for range 40 {
				c.Tick()
			}
		},
		"one was stored, and committed": func(c *coord.Coord) {
			take(c, api.CtlReady, 4, 2, tasks...)
			c.Tick()
			c.Tick()
			take(c, api.CtlAck, 4, 10, tasks...)
			c.Stored(10, true)
			take(c, api.CtlDone, 4, 10, sinks...)
		},
		"what it began from is committed": func(c *coord.Coord) {
			take(c, api.CtlReady, 4, 2, tasks...)
			take(c, api.CtlDone, 4, 2, sinks...)
		},
	}
	for name, live := range lives {
		for _, from := range []uint64{0, 2, 10} {
			c := coord.New(tasks, sinks, 2, 3)
			c.Begin(4, 2, 9)
			live(c)
			was := look(c)
			for _, epoch := range []uint64{0, 1, 3, 4} {
				tells(t, "P18.1: "+name+": not above its own", c.Begin(epoch, from, 100))
				was.is(t, "P18.1: "+name+": not above its own", c)
			}
			tells(t, "P18.1: "+name, c.Begin(6, from, 50), to(api.CtlRestore, 6, from, tasks...))
			looked{epoch: 6, durable: from, timeout: 3}.is(t, "P18.1: "+name, c)
			tells(t, "P18.4: "+name, c.Stored(10, true))
			acks(t, "P18.3: "+name, c, 6, 10, 0, tasks...)
			tells(t, "P18.2: "+name, c.Tick(), to(api.CtlRestore, 6, from, tasks...))
			take(c, api.CtlReady, 6, from, tasks...)
			looked{epoch: 6, durable: from, timeout: 3, settled: from == 0}.is(t, "P18.4: "+name, c)
			var commits []api.Control
			if from > 0 {
				commits = to(api.CtlCommit, 6, from, sinks...)
			}
			tells(t, "P18.1: "+name+": its commit", c.Tick(), commits)
			tells(t, "P18.1: "+name+": its commit, the next number", c.Tick(), commits, to(api.CtlTrigger, 6, 51, tasks...))
			ticks(t, "P18.1: "+name+": ticks from 0", c, 2, commits, to(api.CtlTrigger, 6, 51, tasks...))
			tells(t, "P18.1: "+name+": the time out", c.Tick(), commits, to(api.CtlTrigger, 6, 52, tasks...))
			looked{epoch: 6, durable: from, timeout: 6, under: 52}.is(t, "P18.1: "+name, c)
		}
	}
}

// TestNumbers: the next one is above last, and above every one that there was: begun, given up, durable, begun from.
func TestNumbers(t *testing.T) {
	c := coord.New([]int{0}, nil, 1, 1)
	next := func(epoch, from, last, want uint64) {
		t.Helper()
		tells(t, "P18.1", c.Begin(epoch, from, last), to(api.CtlRestore, epoch, from, 0))
		take(c, api.CtlReady, epoch, from, 0)
		tells(t, "P18.5", c.Tick(), to(api.CtlTrigger, epoch, want, 0))
		tells(t, "P18.5: the next one", c.Tick(), to(api.CtlTrigger, epoch, want+1, 0))
		if c.Under() != want+1 {
			t.Errorf("P18.4: Under %d, wanted %d", c.Under(), want+1)
		}
	}
	next(1, 0, 0, 1)
	next(2, 0, 0, 3)
	next(3, 0, 3, 5)
	next(4, 1, 6, 7)
	next(9, 0, 100, 101)
	next(10, 5, 7, 103)
	next(11, 200, 0, 201)
	next(12, 201, 1<<40, 1<<40+1)
	next(13, 3, 4, 1<<40+3)
	next(14, 0, beyond-3, beyond-2)
	c.Begin(beyond-1, 0, beyond-1)
	if c.Epoch() != beyond-1 {
		t.Errorf("P18.1: Epoch %d", c.Epoch())
	}
}

// TestRestores: told at each tick to those that aren't ready, and no tick is counted till all are.
func TestRestores(t *testing.T) {
	tasks := []int{9, 0, -4, 7}
	c := coord.New(tasks, []int{7}, 2, 5)
	tells(t, "P18.1", c.Begin(3, 8, 8), to(api.CtlRestore, 3, 8, tasks...))
	ticks(t, "P18.2", c, 4, to(api.CtlRestore, 3, 8, tasks...))
	take(c, api.CtlReady, 3, 8, -4)
	ticks(t, "P18.2", c, 2, to(api.CtlRestore, 3, 8, 9, 0, 7))
	take(c, api.CtlReady, 3, 8, 9, -4, 9)
	ticks(t, "P18.2", c, 1, to(api.CtlRestore, 3, 8, 0, 7))
	take(c, api.CtlDone, 3, 8, 7)
	take(c, api.CtlReady, 3, 8, 7)
	ticks(t, "P18.2", c, 3, to(api.CtlRestore, 3, 8, 0))
	looked{epoch: 3, durable: 8, timeout: 5}.is(t, "P18.4: one isn't ready", c)
	take(c, api.CtlReady, 3, 8, 0)
	looked{epoch: 3, durable: 8, timeout: 5, settled: true}.is(t, "P18.4: all are ready", c)
	ticks(t, "P18.2: from 0", c, 1)
	ticks(t, "P18.2: interval", c, 2, to(api.CtlTrigger, 3, 9, tasks...))
}

// TestReadyPassedOver: of another epoch, another number, no task, another kind.
func TestReadyPassedOver(t *testing.T) {
	made := func() *coord.Coord {
		c := coord.New([]int{0, 2, 4}, []int{4, 2}, 1, 5)
		c.Begin(5, 3, 6)
		take(c, api.CtlReady, 5, 3, 0)
		return c
	}
	for _, m := range []api.Control{
		{Kind: api.CtlReady, Epoch: 4, N: 3, Task: 2},
		{Kind: api.CtlReady, Epoch: 6, N: 3, Task: 2},
		{Kind: api.CtlReady, Epoch: 0, N: 3, Task: 2},
		{Kind: api.CtlReady, Epoch: math.MaxUint64, N: 3, Task: 2},
		{Kind: api.CtlReady, Epoch: 5, N: 0, Task: 2},
		{Kind: api.CtlReady, Epoch: 5, N: 2, Task: 2},
		{Kind: api.CtlReady, Epoch: 5, N: 4, Task: 2},
		{Kind: api.CtlReady, Epoch: 5, N: 6, Task: 2},
		{Kind: api.CtlReady, Epoch: 5, N: 3, Task: 1},
		{Kind: api.CtlReady, Epoch: 5, N: 3, Task: -1},
		{Kind: api.CtlReady, Epoch: 5, N: 3, Task: math.MaxInt},
		{Kind: api.CtlReady, Epoch: 5, N: 3, Task: 0}, // again
		{Kind: api.CtlAck, Epoch: 5, N: 3, Task: 2},
		{Kind: api.CtlAck, Epoch: 5, N: 0, Task: 2},
		{Kind: api.CtlAck, Epoch: 5, N: 7, Task: 2}, // ahead of its Trigger
		{Kind: api.CtlTrigger, Epoch: 5, N: 3, Task: 2},
		{Kind: api.CtlCommit, Epoch: 5, N: 3, Task: 2},
		{Kind: api.CtlRestore, Epoch: 5, N: 3, Task: 2},
		{Kind: 0, Epoch: 5, N: 3, Task: 2},
		{Kind: -1, Epoch: 5, N: 3, Task: 2},
		{Kind: 7, Epoch: 5, N: 3, Task: 2},
		{},
	} {
		passedOver(t, "P18.3: ready", made, m)
	}
}

// TestAckPassedOver: of another epoch, another number, no task, another kind, one that acked.
func TestAckPassedOver(t *testing.T) {
	made := func() *coord.Coord {
		c := begun([]int{0, 2, 4}, []int{4, 2}, 2, 4, 6)
		ticks(t, "P18.2", c, 1, to(api.CtlCommit, 1, 6, 4, 2))
		ticks(t, "P18.2", c, 1, to(api.CtlCommit, 1, 6, 4, 2), to(api.CtlTrigger, 1, 7, 0, 2, 4))
		take(c, api.CtlAck, 1, 7, 4)
		return c
	}
	for _, m := range []api.Control{
		{Kind: api.CtlAck, Epoch: 0, N: 7, Task: 2},
		{Kind: api.CtlAck, Epoch: 2, N: 7, Task: 2},
		{Kind: api.CtlAck, Epoch: 1, N: 0, Task: 2},
		{Kind: api.CtlAck, Epoch: 1, N: 6, Task: 2},
		{Kind: api.CtlAck, Epoch: 1, N: 8, Task: 2},
		{Kind: api.CtlAck, Epoch: 1, N: 7, Task: 4},
		{Kind: api.CtlAck, Epoch: 1, N: 7, Task: 1},
		{Kind: api.CtlAck, Epoch: 1, N: 7, Task: math.MinInt},
		{Kind: api.CtlReady, Epoch: 1, N: 7, Task: 2},
		{Kind: api.CtlReady, Epoch: 1, N: 6, Task: 2}, // told again
		{Kind: api.CtlDone, Epoch: 1, N: 7, Task: 2},  // it isn't durable yet
		{Kind: api.CtlDone, Epoch: 1, N: 0, Task: 2},
		{Kind: api.CtlDone, Epoch: 1, N: 5, Task: 2},
		{Kind: api.CtlDone, Epoch: 2, N: 6, Task: 2},
		{Kind: api.CtlDone, Epoch: 0, N: 6, Task: 2},
		{Kind: api.CtlDone, Epoch: 1, N: 6, Task: 0}, // no sink
		{Kind: api.CtlDone, Epoch: 1, N: 6, Task: 3},
		{Kind: api.CtlTrigger, Epoch: 1, N: 7, Task: 2},
		{Kind: api.CtlCommit, Epoch: 1, N: 6, Task: 2},
		{Kind: api.CtlRestore, Epoch: 1, N: 6, Task: 2},
		{Kind: math.MaxInt, Epoch: 1, N: 7, Task: 2},
	} {
		passedOver(t, "P18.3: ack", made, m)
	}
}

// TestInterval: from when all were ready, from when the last one began, that tick not counted; whichever was later.
func TestInterval(t *testing.T) {
	for _, interval := range []int{1, 2, 3, 10, 999, 1000} {
		c := coord.New([]int{1, 2}, nil, interval, 1000)
		c.Begin(1, 0, 0)
		for range 5 {
			c.Tick()
		}
		take(c, api.CtlReady, 1, 0, 1, 2)
		for n := uint64(1); n < 4; n++ {
			ticks(t, "P18.2: interval", c, interval-1)
			tells(t, "P18.2: interval", c.Tick(), to(api.CtlTrigger, 1, n, 1, 2))
			if n == 2 { // ticks while it is under way, or at the store, count too
				acks(t, "P18.3", c, 1, n, 0, 1)
				ticks(t, "P18.2: under way", c, (interval-1)/2, to(api.CtlTrigger, 1, n, 2))
				acks(t, "P18.3", c, 1, n, n, 2)
				ticks(t, "P18.2: at the store", c, interval-1-(interval-1)/2)
				tells(t, "P18.4", c.Stored(n, true))
				tells(t, "P18.2: interval", c.Tick(), to(api.CtlTrigger, 1, n+1, 1, 2))
				break
			}
			acks(t, "P18.3", c, 1, n, n, 2, 1)
			tells(t, "P18.4", c.Stored(n, n%2 == 0))
		}
		acks(t, "P18.3", c, 1, 3, 3, 2, 1)
		ticks(t, "P18.2: at the store for long", c, 2*interval)
		tells(t, "P18.4", c.Stored(3, true))
		tells(t, "P18.2: interval, long ago", c.Tick(), to(api.CtlTrigger, 1, 4, 1, 2))
		acks(t, "P18.3", c, 1, 4, 4, 1, 2)
		c.Begin(2, 3, 3)
		take(c, api.CtlReady, 2, 3, 1, 2)
		ticks(t, "P18.2: since all were ready again", c, interval-1)
		tells(t, "P18.2: since all were ready again", c.Tick(), to(api.CtlTrigger, 2, 5, 1, 2))
	}
}

// TestBounds: below 1 counts as 1, above 1000 as 1000.
func TestBounds(t *testing.T) {
	for _, x := range [][2]int{{math.MinInt, 1}, {-1, 1}, {0, 1}, {1, 1}, {2, 2}, {999, 999}, {1000, 1000}, {1001, 1000}, {1 << 20, 1000}, {math.MaxInt, 1000}} {
		c := begun([]int{3}, nil, x[0], 1, 0)
		ticks(t, "P18: interval", c, x[1]-1)
		tells(t, "P18: interval", c.Tick(), to(api.CtlTrigger, 1, 1, 3))
		c = begun([]int{3}, nil, 1, x[0], 0)
		for _, c := range []*coord.Coord{c, coord.New(nil, nil, 1, x[0])} {
			if c.Timeout() != x[1] {
				t.Errorf("P18.4: Timeout of %d: %d, wanted %d", x[0], c.Timeout(), x[1])
			}
		}
		ticks(t, "P18: timeout", c, x[1], to(api.CtlTrigger, 1, 1, 3))
		tells(t, "P18: timeout", c.Tick(), to(api.CtlTrigger, 1, 2, 3))
	}
}

// TestTimeout: it doubles each time that one is given up, up to 2^20, and is itself again by a Stored that is ok.
func TestTimeout(t *testing.T) {
	c := begun([]int{0, 1}, []int{1}, 1000, 1000, 0)
	ticks(t, "P18.2", c, 999)
	tells(t, "P18.2", c.Tick(), to(api.CtlTrigger, 1, 1, 0, 1))
	wait, n := 1000, uint64(1)
	for range 13 {
		ticks(t, "P18.2: under way", c, wait-1, to(api.CtlTrigger, 1, n, 0, 1))
		if c.Timeout() != wait || c.Under() != n {
			t.Fatalf("P18.2: Timeout %d, Under %d, wanted %d, %d", c.Timeout(), c.Under(), wait, n)
		}
		wait, n = min(2*wait, 1<<20), n+1
		tells(t, "P18.2: given up, and the next one", c.Tick(), to(api.CtlTrigger, 1, n, 0, 1))
		if c.Timeout() != wait || c.Under() != n {
			t.Fatalf("P18.2: Timeout %d, Under %d, wanted %d, %d", c.Timeout(), c.Under(), wait, n)
		}
		acks(t, "P18.3: late", c, 1, n-1, 0, 0, 1)
	}
	if wait != 1<<20 {
		t.Errorf("P18.2: Timeout %d, wanted %d", wait, 1<<20)
	}
	acks(t, "P18.3", c, 1, n, n, 0, 1)
	tells(t, "P18.4: not stored", c.Stored(n, false))
	if c.Timeout() != wait {
		t.Errorf("P18.4: Timeout %d, wanted %d", c.Timeout(), wait)
	}
	ticks(t, "P18.4: given up by Stored", c, 999)
	tells(t, "P18.2", c.Tick(), to(api.CtlTrigger, 1, n+1, 0, 1))
	acks(t, "P18.3", c, 1, n+1, n+1, 0, 1)
	tells(t, "P18.4: stored", c.Stored(n+1, true), to(api.CtlCommit, 1, n+1, 1))
	if c.Timeout() != 1000 {
		t.Errorf("P18.4: Timeout %d, wanted 1000", c.Timeout())
	}
}

// TestGivenUp: what comes of it afterwards is passed over, and it isn't told of any more.
func TestGivenUp(t *testing.T) {
	c := begun([]int{0, 1}, []int{0}, 10, 2, 0)
	ticks(t, "P18.2", c, 9)
	ticks(t, "P18.2", c, 2, to(api.CtlTrigger, 1, 1, 0, 1))
	acks(t, "P18.3", c, 1, 1, 0, 0)
	ticks(t, "P18.2: given up", c, 1)
	looked{epoch: 1, timeout: 4, settled: true}.is(t, "P18.2: given up", c)
	acks(t, "P18.3: given up", c, 1, 1, 0, 1, 0)
	acks(t, "P18.3: none is under way", c, 1, 0, 0, 1, 0)
	tells(t, "P18.4: given up", c.Stored(1, true))
	tells(t, "P18.4: none is under way", c.Stored(0, true))
	looked{epoch: 1, timeout: 4, settled: true}.is(t, "P18.2: given up", c)
	ticks(t, "P18.2: the interval isn't over", c, 7)
	ticks(t, "P18.2: nobody has acked it", c, 4, to(api.CtlTrigger, 1, 2, 0, 1))
	ticks(t, "P18.2: given up", c, 1)
	if c.Timeout() != 8 {
		t.Errorf("P18.2: Timeout %d, wanted 8", c.Timeout())
	}
}

// TestAtTheStore: it is told once, waits for Stored alone, and for that for ever.
func TestAtTheStore(t *testing.T) {
	for _, ok := range []bool{true, false} {
		c := begun([]int{0, 1}, []int{0, 1}, 1, 1, 0)
		ticks(t, "P18.2", c, 1, to(api.CtlTrigger, 1, 1, 0, 1))
		tells(t, "P18.4: not yet at the store", c.Stored(1, ok))
		acks(t, "P18.3", c, 1, 1, 1, 1, 0)
		acks(t, "P18.3: again", c, 1, 1, 0, 1, 0, 0)
		ticks(t, "P18.2: at the store", c, 50)
		for _, n := range []uint64{0, 2, beyond, math.MaxUint64} {
			tells(t, "P18.4: another one", c.Stored(n, true))
			tells(t, "P18.4: another one", c.Stored(n, false))
		}
		looked{epoch: 1, under: 1, timeout: 1}.is(t, "P18.4: at the store", c)
		if ok {
			tells(t, "P18.4", c.Stored(1, true), to(api.CtlCommit, 1, 1, 0, 1))
			looked{epoch: 1, durable: 1, timeout: 1}.is(t, "P18.4: stored", c)
		} else {
			tells(t, "P18.4", c.Stored(1, false))
			looked{epoch: 1, timeout: 1, settled: true}.is(t, "P18.4: not stored", c)
		}
		was := look(c)
		tells(t, "P18.4: told again", c.Stored(1, true))
		acks(t, "P18.3: told again", c, 1, 1, 0, 1, 0)
		was.is(t, "P18.4: told again", c)
	}
}

// TestCommits: told at each tick to each sink that hasn't told that it committed what is durable, ahead of what is triggered.
func TestCommits(t *testing.T) {
	c := begun([]int{3, 1, 2}, []int{2, 3}, 2, 9, 0)
	c.Tick()
	c.Tick()
	take(c, api.CtlDone, 1, 1, 2, 3) // of what isn't durable
	acks(t, "P18.3", c, 1, 1, 1, 3, 1, 2)
	tells(t, "P18.4: no sink has committed it yet", c.Stored(1, true), to(api.CtlCommit, 1, 1, 2, 3))
	ticks(t, "P18.2", c, 1, to(api.CtlCommit, 1, 1, 2, 3))
	ticks(t, "P18.2: first the commits", c, 3, to(api.CtlCommit, 1, 1, 2, 3), to(api.CtlTrigger, 1, 2, 3, 1, 2))
	take(c, api.CtlDone, 1, 1, 2)
	ticks(t, "P18.2: one is done", c, 1, to(api.CtlCommit, 1, 1, 3), to(api.CtlTrigger, 1, 2, 3, 1, 2))
	acks(t, "P18.3", c, 1, 2, 2, 3, 1, 2)
	ticks(t, "P18.2: one at the store", c, 2, to(api.CtlCommit, 1, 1, 3))
	take(c, api.CtlDone, 1, 1, 3)
	ticks(t, "P18.2: all are done", c, 2)
	looked{epoch: 1, under: 2, durable: 1, timeout: 9}.is(t, "P18.4: one is at the store", c)
	tells(t, "P18.4", c.Stored(2, true), to(api.CtlCommit, 1, 2, 2, 3))
	take(c, api.CtlDone, 1, 1, 2, 3) // late
	take(c, api.CtlDone, 1, 3, 2, 3)
	take(c, api.CtlDone, 1, 0, 2, 3)
	take(c, api.CtlDone, 1, 2, 1)
	take(c, api.CtlDone, 1, 2, 2)
	looked{epoch: 1, durable: 2, timeout: 9}.is(t, "P18.4: one isn't done", c)
	take(c, api.CtlDone, 1, 1, 2) // later still: it stays done
	take(c, api.CtlDone, 1, 2, 3)
	looked{epoch: 1, durable: 2, timeout: 9, settled: true}.is(t, "P18.4: all are done", c)
}

// TestStoredFails: what is durable stays so, and what was told of it.
func TestStoredFails(t *testing.T) {
	c := begun([]int{0, 1}, []int{0, 1}, 1, 3, 7)
	take(c, api.CtlDone, 1, 7, 1)
	ticks(t, "P18.2", c, 1, to(api.CtlCommit, 1, 7, 0), to(api.CtlTrigger, 1, 8, 0, 1))
	acks(t, "P18.3", c, 1, 8, 8, 0, 1)
	tells(t, "P18.4", c.Stored(8, false))
	looked{epoch: 1, durable: 7, timeout: 3}.is(t, "P18.4", c)
	ticks(t, "P18.4: the next one", c, 3, to(api.CtlCommit, 1, 7, 0), to(api.CtlTrigger, 1, 9, 0, 1))
}

// TestLists: each number once, in the order in which it came first; sinks that are no tasks are passed over.
func TestLists(t *testing.T) {
	for _, x := range []struct{ tasks, sinks, wantTasks, wantSinks []int }{
		{[]int{4, 2, 9}, []int{9, 4}, []int{4, 2, 9}, []int{9, 4}},
		{[]int{4, 2, 4, 9, 2}, []int{9, 9, 4, 9}, []int{4, 2, 9}, []int{9, 4}},
		{[]int{1}, []int{0, 2, -1, 1, math.MaxInt}, []int{1}, []int{1}},
		{[]int{math.MaxInt, math.MinInt, 0}, []int{0, math.MinInt, math.MaxInt, 1}, []int{math.MaxInt, math.MinInt, 0}, []int{0, math.MinInt, math.MaxInt}},
		{[]int{1, 2}, []int{3}, []int{1, 2}, nil},
		{[]int{1, 2}, nil, []int{1, 2}, nil},
	} {
		c := coord.New(x.tasks, x.sinks, 1, 5)
		tells(t, "P18.1: tasks", c.Begin(1, 2, 2), to(api.CtlRestore, 1, 2, x.wantTasks...))
		take(c, api.CtlReady, 1, 2, x.wantTasks...)
		tells(t, "P18.2: sinks, tasks", c.Tick(), to(api.CtlCommit, 1, 2, x.wantSinks...), to(api.CtlTrigger, 1, 3, x.wantTasks...))
		acks(t, "P18.3", c, 1, 3, 3, x.wantTasks...)
		tells(t, "P18.4: sinks", c.Stored(3, true), to(api.CtlCommit, 1, 3, x.wantSinks...))
		take(c, api.CtlDone, 1, 3, x.wantSinks...)
		looked{epoch: 1, durable: 3, timeout: 5, settled: true}.is(t, "P18.4", c)
	}
}

// TestNoTasks: all of none are ready, and nobody acks, so that each number is given up.
func TestNoTasks(t *testing.T) {
	c := coord.New(nil, []int{1}, 1, 2)
	tells(t, "P18.1: no tasks", c.Begin(1, 5, 5))
	looked{epoch: 1, durable: 5, timeout: 2, settled: true}.is(t, "P18.1: no tasks", c)
	ticks(t, "P18.2: no tasks", c, 2)
	acks(t, "P18.3: no tasks", c, 1, 6, 0, 1, 0)
	tells(t, "P18.4: no tasks", c.Stored(6, true))
	looked{epoch: 1, durable: 5, under: 6, timeout: 2}.is(t, "P18.2: no tasks", c)
	ticks(t, "P18.2: no tasks", c, 1)
	looked{epoch: 1, durable: 5, under: 7, timeout: 4}.is(t, "P18.2: no tasks: given up", c)
}

// TestAllArguments: all calls take all of them.
func TestAllArguments(t *testing.T) {
	edges := []uint64{0, 1, 2, beyond - 1, beyond, 1 << 63, math.MaxUint64 - 1, math.MaxUint64}
	for _, epoch := range edges {
		for _, from := range edges {
			for _, last := range edges {
				c := coord.New([]int{0, 1}, []int{1}, -1, -1)
				for _, e := range []uint64{epoch, epoch + 1, 1, math.MaxUint64} {
					c.Begin(e, from, last)
					for range 3 {
						c.Tick()
						take(c, api.CtlReady, c.Epoch(), from, 0, 1)
						take(c, api.CtlAck, c.Epoch(), c.Under(), 0, 1)
						take(c, api.CtlDone, c.Epoch(), c.Durable(), 0, 1)
						c.Stored(c.Under(), true)
						c.Stored(last, false)
						c.Settled()
						c.Timeout()
					}
				}
			}
		}
	}
}

// TestLeftAlone: what New is handed stays and isn't kept; no answer is memory of the coordinator's, nor of another answer; no coordinator is another one.
func TestLeftAlone(t *testing.T) {
	tasks, sinks := []int{4, 2, 4, 77}, []int{2, 4, 2, 88}
	c, other := coord.New(tasks[:3], sinks[:3], 1, 9), coord.New([]int{4, 2}, []int{2, 4}, 1, 9)
	if !slices.Equal(tasks, []int{4, 2, 4, 77}) || !slices.Equal(sinks, []int{2, 4, 2, 88}) {
		t.Errorf("DOC 3: what was handed in is %v, %v", tasks, sinks)
	}
	spoil(tasks, 99)
	spoil(sinks, 99)
	both := func(call func(c *coord.Coord) []api.Control) {
		t.Helper()
		first := call(c)
		kept := slices.Clone(first)
		tells(t, "DOC 3", first, call(other))
		second := c.Tick()
		tells(t, "DOC 3", second, other.Tick())
		spoil(second, api.Control{Task: 99})
		tells(t, "DOC 3: an answer behind another one", first, kept)
		spoil(first, api.Control{Task: 99})
		tells(t, "DOC 3", c.Tick(), other.Tick())
		look(other).is(t, "DOC 3", c)
	}
	both(func(c *coord.Coord) []api.Control { return c.Begin(1, 3, 3) })
	both(func(c *coord.Coord) []api.Control { take(c, api.CtlReady, 1, 3, 4, 2); return c.Tick() })
	both(func(c *coord.Coord) []api.Control { take(c, api.CtlAck, 1, 4, 4, 2); return c.Stored(4, true) })
	both(func(c *coord.Coord) []api.Control { take(c, api.CtlDone, 1, 4, 2); return c.Tick() })
	both(func(c *coord.Coord) []api.Control { return c.Begin(2, 4, 3) })
	look(coord.New(nil, nil, 1, 9)).is(t, "DOC 8: another one", coord.New([]int{4, 2}, []int{2, 4}, 1, 9))
}
