package flow_test

import (
	"math"
	"runtime"
	"slices"
	"testing"
	"weak"

	"leat/api"
	"leat/flow"
)

// counts: what the channel tells of itself in numbers.
type counts struct{ backlog, moving, waiting, credits, most int }

func told[T any](c *flow.Channel[T]) counts {
	return counts{c.Backlog(), c.Moving(), c.Waiting(), c.Credits(), c.Most()}
}

func has[T any](t *testing.T, what string, c *flow.Channel[T], want counts) {
	t.Helper()
	if got := told(c); got != want {
		t.Errorf("%s: %+v, wanted %+v", what, got, want)
	}
}

// waits: just these things wait, by each Peek.
func waits[T comparable](t *testing.T, what string, c *flow.Channel[T], want ...T) {
	t.Helper()
	if c.Waiting() != len(want) {
		t.Errorf("%s: Waiting %d, wanted %d", what, c.Waiting(), len(want))
	}
	for i, w := range want {
		if x, ok := c.Peek(i); x != w || !ok {
			t.Errorf("%s: Peek(%d): %v, %v, wanted %v", what, i, x, ok, w)
		}
	}
	var none T
	for _, i := range []int{len(want), len(want) + 1, -1, -len(want), -len(want) - 1, api.MaxCredits, math.MaxInt, math.MinInt} {
		if i >= 0 && i < len(want) {
			continue
		}
		if x, ok := c.Peek(i); x != none || ok {
			t.Errorf("%s: Peek(%d): %v, %v, wanted none", what, i, x, ok)
		}
	}
}

func says(t *testing.T, what string, got, want bool) {
	t.Helper()
	if got != want {
		t.Errorf("%s: %v, wanted %v", what, got, want)
	}
}

func answers(t *testing.T, what string, got, want api.Errno) {
	t.Helper()
	if got != want {
		t.Errorf("%s: %v, wanted %v", what, got, want)
	}
}

func takes[T comparable](t *testing.T, what string, c *flow.Channel[T], want ...T) {
	t.Helper()
	for _, w := range want {
		if x, ok := c.Take(); x != w || !ok {
			t.Errorf("%s: Take: %v, %v, wanted %v", what, x, ok, w)
		}
	}
}

func takesNone[T comparable](t *testing.T, what string, c *flow.Channel[T]) {
	t.Helper()
	var none T
	if x, ok := c.Take(); x != none || ok {
		t.Errorf("%s: Take: %v, %v, wanted none", what, x, ok)
	}
}

func drains[T comparable](t *testing.T, what string, c *flow.Channel[T], want ...T) {
	t.Helper()
	if got := c.Drain(); !slices.Equal(got, want) {
		t.Errorf("%s: Drain %v, wanted %v", what, got, want)
	}
}

// filled: of the numbers from 0 on, so many wait, so many move, so many are in the backlog.
func filled(credits, waiting, moving, backlog int) *flow.Channel[int] {
	c := flow.New[int](credits, 1)
	for i := range waiting + moving + backlog {
		c.Offer(i)
	}
	for range waiting {
		c.Send()
		c.Deliver()
	}
	for range moving {
		c.Send()
	}
	return c
}

func upTo(n int) []int {
	var list []int
	for i := range n {
		list = append(list, i)
	}
	return list
}

func TestNumbersOfErrors(t *testing.T) {
	if api.ErrFlowSeq != 61 || api.ErrFlowEpoch != 62 {
		t.Error("P6.1: the numbers of the errors")
	}
}

func TestExample(t *testing.T) {
	c := flow.New[rune](1, 1)
	c.Offer('a')
	c.Offer('b')
	says(t, "example: Send", c.Send(), true)
	says(t, "example: Send", c.Send(), false)
	answers(t, "example: Deliver", c.Deliver(), api.OK)
	takes(t, "example", c, 'a')
	says(t, "example: Send", c.Send(), true)
}

func TestNew(t *testing.T) {
	for _, x := range []struct{ asked, credits int }{
		{math.MinInt, 1}, {-1, 1}, {0, 1}, {1, 1}, {2, 2}, {63, 63}, {64, 64}, {65, 64}, {1 << 16, 64}, {1<<16 + 1, 64}, {math.MaxInt, 64},
	} {
		c := flow.New[int](x.asked, 7)
		has(t, "P6.1: new", c, counts{credits: x.credits})
		if c.Epoch() != 7 {
			t.Errorf("P6.2: Epoch %d, wanted 7", c.Epoch())
		}
		for i := range x.credits {
			answers(t, "P6.1: as many as the credits wait", c.Arrive(7, uint64(i+1), i), api.OK)
		}
		answers(t, "P6.1: one more", c.Arrive(7, uint64(x.credits+1), 0), api.ErrFlowSeq)
		has(t, "P6.1: full", c, counts{waiting: x.credits, most: x.credits})
	}
}

func TestOneThing(t *testing.T) {
	c := flow.New[string](3, 1)
	says(t, "P6.1: Send of none", c.Send(), false)
	answers(t, "P6.1: Deliver of none", c.Deliver(), api.ErrNetEmpty)
	takesNone(t, "P6.1: new", c)
	waits(t, "P6.1: new", c)
	c.Offer("a")
	has(t, "P6.1: offered", c, counts{backlog: 1, credits: 3})
	answers(t, "P6.1: what wasn't sent isn't delivered", c.Deliver(), api.ErrNetEmpty)
	takesNone(t, "P6.1: offered", c)
	says(t, "P6.1: Send", c.Send(), true)
	has(t, "P6.1: sent", c, counts{moving: 1, credits: 2})
	says(t, "P6.1: Send of an empty backlog", c.Send(), false)
	takesNone(t, "P6.1: what moves doesn't wait", c)
	waits(t, "P6.1: what moves doesn't wait", c)
	answers(t, "P6.1: Deliver", c.Deliver(), api.OK)
	has(t, "P6.1: delivered", c, counts{waiting: 1, credits: 2, most: 1})
	answers(t, "P6.1: nothing moves any more", c.Deliver(), api.ErrNetEmpty)
	waits(t, "P6.1: delivered", c, "a")
	takes(t, "P6.1", c, "a")
	has(t, "P6.1: a credit is free again", c, counts{credits: 3, most: 1})
	takesNone(t, "P6.1: taken", c)
	waits(t, "P6.1: taken", c)
}

func TestSendAsManyAsCredits(t *testing.T) {
	for _, credits := range []int{1, 2, 3, 17, 64} {
		c := flow.New[int](credits, 1)
		for i := range credits + 2 {
			c.Offer(i)
		}
		for i := range credits {
			has(t, "P6.1: sent so far", c, counts{backlog: credits + 2 - i, moving: i, credits: credits - i})
			says(t, "P6.1: Send", c.Send(), true)
		}
		says(t, "P6.3: Send without credit, all move", c.Send(), false)
		for i := range credits {
			answers(t, "P6.1: Deliver", c.Deliver(), api.OK)
			says(t, "P6.3: Send without credit, some wait", c.Send(), false)
			has(t, "P6.3", c, counts{backlog: 2, moving: credits - i - 1, waiting: i + 1, most: i + 1})
		}
		waits(t, "P6.1: all wait", c, upTo(credits)...)
		takes(t, "P6.3", c, 0)
		says(t, "P6.1: Send behind Take", c.Send(), true)
		says(t, "P6.1: one credit, one Send", c.Send(), false)
		has(t, "P6.3", c, counts{backlog: 1, moving: 1, waiting: credits - 1, most: credits})
		answers(t, "P6.1: Deliver", c.Deliver(), api.OK)
		takes(t, "P6.3: in order", c, upTo(credits + 1)[1:]...)
		takesNone(t, "P6.3: each once", c)
	}
}

func TestArriveOutOfTurn(t *testing.T) {
	c := flow.New[string](4, 5)
	for _, seq := range []uint64{0, 2, 3, 1 << 63, math.MaxUint64} {
		answers(t, "P6.1: not the first", c.Arrive(5, seq, "x"), api.ErrFlowSeq)
	}
	has(t, "P6.1: refused", c, counts{credits: 4})
	answers(t, "P6.1: the first", c.Arrive(5, 1, "a"), api.OK)
	for _, seq := range []uint64{0, 1, 3, 1<<32 + 2, 1<<63 + 2, math.MaxUint64} {
		answers(t, "P6.1: not the second", c.Arrive(5, seq, "x"), api.ErrFlowSeq)
	}
	answers(t, "P6.1: the second", c.Arrive(5, 2, "b"), api.OK)
	waits(t, "P6.1: behind all", c, "a", "b")
	takes(t, "P6.1", c, "a", "b")
	answers(t, "P6.1: again", c.Arrive(5, 2, "b"), api.ErrFlowSeq)
	answers(t, "P6.1: the third", c.Arrive(5, 3, "c"), api.OK)
	waits(t, "P6.1: behind Take", c, "c")
}

func TestArriveOfAnotherEpoch(t *testing.T) {
	for _, own := range []uint64{0, 1, 7, 1 << 63, math.MaxUint64} {
		c := flow.New[int](1, own)
		for _, other := range []uint64{own - 1, own + 1, own ^ 1<<63, own ^ 1<<32, ^own} {
			answers(t, "P6.1: of another epoch", c.Arrive(other, 1, 5), api.ErrFlowEpoch)
			answers(t, "DOC 4: of another epoch, and out of turn", c.Arrive(other, 2, 5), api.ErrFlowEpoch)
		}
		has(t, "P6.1: refused", c, counts{credits: 1})
		answers(t, "P6.1: its own", c.Arrive(own, 1, 5), api.OK)
		answers(t, "DOC 4: of another epoch, and full", c.Arrive(own+1, 2, 5), api.ErrFlowEpoch)
		waits(t, "P6.1: its own", c, 5)
	}
}

// TestArriveIntoFull: a number that was refused for want of room comes in its turn still.
func TestArriveIntoFull(t *testing.T) {
	c := flow.New[string](2, 1)
	c.Arrive(1, 1, "a")
	c.Arrive(1, 2, "b")
	answers(t, "P6.1: full", c.Arrive(1, 3, "c"), api.ErrFlowSeq)
	waits(t, "P6.1: full", c, "a", "b")
	takes(t, "P6.1", c, "a")
	answers(t, "P6.1: the number didn't go by", c.Arrive(1, 4, "d"), api.ErrFlowSeq)
	answers(t, "P6.1: room again", c.Arrive(1, 3, "c"), api.OK)
	waits(t, "P6.1: room again", c, "b", "c")
	has(t, "P6.2: Most isn't a sum", c, counts{waiting: 2, most: 2})
}

// TestArriveAheadOfDeliver: what arrived by itself has the number of what moves: that one comes too late.
func TestArriveAheadOfDeliver(t *testing.T) {
	c := filled(3, 0, 2, 2)
	answers(t, "P6.1: Arrive", c.Arrive(1, 1, 100), api.OK)
	has(t, "P6.1: Credits", c, counts{backlog: 2, moving: 2, waiting: 1, most: 1})
	says(t, "P6.1: Send", c.Send(), false)
	answers(t, "P6.1: Arrive", c.Arrive(1, 2, 101), api.OK)
	has(t, "P6.1: Credits below 0", c, counts{backlog: 2, moving: 2, waiting: 2, credits: -1, most: 2})
	says(t, "P6.1: Send", c.Send(), false)
	answers(t, "P6.1: the first that moved", c.Deliver(), api.ErrFlowSeq)
	has(t, "P6.1: it moves no more", c, counts{backlog: 2, moving: 1, waiting: 2, most: 2})
	says(t, "P6.1: no credit", c.Send(), false)
	answers(t, "P6.1: the second that moved", c.Deliver(), api.ErrFlowSeq)
	answers(t, "P6.1: none moves", c.Deliver(), api.ErrNetEmpty)
	has(t, "P6.1: they move no more", c, counts{backlog: 2, waiting: 2, credits: 1, most: 2})
	says(t, "P6.1: Send", c.Send(), true)
	answers(t, "P6.1: the third comes in its turn", c.Deliver(), api.OK)
	waits(t, "P6.1: behind all", c, 100, 101, 2)
}

// TestDeliverIntoFull: what moves is lost where no room is, and what moves behind it is out of turn then.
func TestDeliverIntoFull(t *testing.T) {
	c := flow.New[int](2, 1)
	c.Arrive(1, 1, 100)
	c.Offer(0)
	c.Offer(1)
	c.Offer(2)
	says(t, "P6.1: Send", c.Send(), true)
	c.Arrive(1, 2, 101)
	answers(t, "P6.1: an old number", c.Deliver(), api.ErrFlowSeq)
	takes(t, "P6.1", c, 100, 101)
	c.Send()
	c.Send()
	answers(t, "P6.1: an old number", c.Deliver(), api.ErrFlowSeq)
	c.Arrive(1, 3, 102)
	c.Arrive(1, 4, 103)
	answers(t, "P6.1: no room", c.Deliver(), api.ErrFlowSeq)
	has(t, "P6.1: it moves no more", c, counts{waiting: 2, most: 2})
	waits(t, "P6.1: what waited", c, 102, 103)
}

func TestMost(t *testing.T) {
	c := filled(5, 0, 5, 9)
	for i, want := range []int{1, 2, 3} {
		c.Deliver()
		if c.Most() != want {
			t.Errorf("P6.2: %d delivered: Most %d", i+1, c.Most())
		}
	}
	takes(t, "P6.2", c, 0, 1, 2)
	c.Deliver()
	has(t, "P6.2: Most stays", c, counts{backlog: 9, moving: 1, waiting: 1, credits: 3, most: 3})
	c.Drain()
	has(t, "P6.2: Most stays behind Drain", c, counts{credits: 5, most: 3})
	c.Kill(9)
	has(t, "P6.2: Most stays behind Kill", c, counts{credits: 5, most: 3})
	for i := range 4 {
		c.Arrive(9, uint64(i+1), i)
	}
	has(t, "P6.2: Most grows again", c, counts{waiting: 4, credits: 1, most: 4})
}

func TestDrain(t *testing.T) {
	for waiting := range 4 {
		for moving := range 4 {
			for backlog := range 4 {
				n := waiting + moving + backlog
				c := filled(6, waiting, moving, backlog)
				has(t, "P6.2", c, counts{backlog, moving, waiting, 6 - moving - waiting, waiting})
				drains(t, "P6.2", c, upTo(n)...)
				has(t, "P6.2: behind Drain", c, counts{credits: 6, most: waiting})
				takesNone(t, "P6.2: behind Drain", c)
				says(t, "P6.2: Send behind Drain", c.Send(), false)
				answers(t, "P6.2: Deliver behind Drain", c.Deliver(), api.ErrNetEmpty)
				drains(t, "P6.2: Drain of none", c)
				next := uint64(waiting + moving + 1)
				answers(t, "P6.2: an old number", c.Arrive(1, next-1, 50), api.ErrFlowSeq)
				c.Offer(51)
				c.Send()
				answers(t, "P6.2: the numbers are alike", c.Deliver(), api.OK)
				answers(t, "P6.2: the numbers go on", c.Arrive(1, next+1, 52), api.OK)
				takes(t, "P6.2: behind Drain", c, 51, 52)
			}
		}
	}
}

// TestDrainBehindArrive: the number to receive may go back.
func TestDrainBehindArrive(t *testing.T) {
	c := flow.New[int](4, 3)
	for i := range 3 {
		c.Arrive(3, uint64(i+1), i)
	}
	drains(t, "P6.2: what arrived by itself", c, 0, 1, 2)
	if c.Epoch() != 3 {
		t.Errorf("P6.2: Drain leaves the epoch: %d", c.Epoch())
	}
	answers(t, "P6.2: the next number to send is 1", c.Arrive(3, 4, 9), api.ErrFlowSeq)
	answers(t, "P6.2: the next number to send is 1", c.Arrive(3, 1, 9), api.OK)
}

func TestDrainIsItsOwn(t *testing.T) {
	c := filled(6, 2, 2, 2)
	list := c.Drain()
	other := slices.Clone(list)
	for i := range 6 {
		c.Offer(10 + i)
	}
	for c.Send() {
		c.Deliver()
	}
	if !slices.Equal(list, other) {
		t.Errorf("DOC 3: an answer of before: %v", list)
	}
	for i := range list {
		list[i] = 99
	}
	_ = append(list[:0], 9, 9, 9, 9, 9, 9, 9, 9)
	drains(t, "DOC 3: an answer changed", c, 10, 11, 12, 13, 14, 15)
}

func TestKill(t *testing.T) {
	for _, x := range []struct{ own, kill, then uint64 }{
		{1, 2, 2}, {1, 9, 9}, {0, math.MaxUint64, math.MaxUint64}, {5, 4, 5}, {5, 0, 5}, {5, 5, 5},
		{0, 0, 0}, {math.MaxUint64, 0, math.MaxUint64}, {1 << 63, 1<<63 - 1, 1 << 63}, {1<<63 - 1, 1 << 63, 1 << 63},
	} {
		c := flow.New[int](3, x.own)
		for i := range 5 {
			c.Offer(i)
		}
		c.Send()
		c.Deliver()
		c.Send()
		c.Kill(x.kill)
		has(t, "P6.2: Kill", c, counts{credits: 3, most: 1})
		if c.Epoch() != x.then {
			t.Errorf("P6.2: Kill(%d) of %d: Epoch %d, wanted %d", x.kill, x.own, c.Epoch(), x.then)
		}
		takesNone(t, "P6.2: Kill", c)
		waits(t, "P6.2: Kill", c)
		says(t, "P6.2: Send behind Kill", c.Send(), false)
		answers(t, "P6.2: Deliver behind Kill", c.Deliver(), api.ErrNetEmpty)
		drains(t, "P6.2: Kill", c)
		if x.own != x.then {
			answers(t, "P6.3: of the epoch of before", c.Arrive(x.own, 1, 7), api.ErrFlowEpoch)
		}
		if x.kill != x.then {
			answers(t, "P6.2: of an epoch that Kill didn't take", c.Arrive(x.kill, 1, 7), api.ErrFlowEpoch)
		}
		answers(t, "P6.2: numbers begin at 1 again", c.Arrive(x.then, 3, 7), api.ErrFlowSeq)
		c.Offer(8)
		says(t, "P6.2: Send of the new epoch", c.Send(), true)
		answers(t, "P6.2: numbers begin at 1 again", c.Deliver(), api.OK)
		answers(t, "P6.2: numbers begin at 1 again", c.Arrive(x.then, 2, 9), api.OK)
		takes(t, "P6.3: nothing of before", c, 8, 9)
	}
}

// TestKillOfNumbers: also the number to send begins again, and where nothing is there.
func TestKillOfNumbers(t *testing.T) {
	c := filled(2, 2, 0, 0)
	takes(t, "P6.2", c, 0, 1)
	c.Kill(1)
	answers(t, "P6.2: the number to receive", c.Arrive(1, 1, 5), api.OK)
	c.Kill(0)
	c.Offer(6)
	c.Send()
	answers(t, "P6.2: the number to send", c.Deliver(), api.OK)
	c.Drain()
	c.Kill(1)
	answers(t, "P6.2: behind Drain", c.Arrive(1, 1, 7), api.OK)
}

// TestGreatBacklog: the backlog isn't bounded, as a ring is.
func TestGreatBacklog(t *testing.T) {
	const many = 2<<16 + 7
	c := flow.New[int](64, 1)
	for i := range many {
		c.Offer(i)
	}
	has(t, "P6.1: many", c, counts{backlog: many, credits: 64})
	for i := range many / 2 {
		says(t, "P6.1: Send", c.Send(), true)
		answers(t, "P6.1: Deliver", c.Deliver(), api.OK)
		takes(t, "P6.3: many", c, i)
	}
	drains(t, "P6.2: many", c, upTo(many)[many/2:]...)
	has(t, "P6.2: many", c, counts{credits: 64, most: 1})
}

// TestThingsOfAllKinds: nothing is asked of a thing but that it is one.
func TestThingsOfAllKinds(t *testing.T) {
	list := []int{1, 2}
	lists := flow.New[[]int](2, 1)
	lists.Offer(list)
	lists.Offer(nil)
	for lists.Send() {
		lists.Deliver()
	}
	if x, ok := lists.Take(); !ok || &x[0] != &list[0] {
		t.Error("DOC 3: a thing isn't as it was offered")
	}
	if x, ok := lists.Take(); !ok || x != nil {
		t.Error("P6.1: nil is a thing")
	}
	anything := flow.New[any](1, 1)
	anything.Offer(nil)
	anything.Send()
	anything.Deliver()
	waits(t, "P6.1: nil is a thing", anything, nil)
	nothing := flow.New[struct{}](2, 1)
	nothing.Offer(struct{}{})
	nothing.Offer(struct{}{})
	nothing.Send()
	drains(t, "P6.2: things without bytes", nothing, struct{}{}, struct{}{})
	great := flow.New[[1 << 17]byte](64, 1)
	great.Offer([1 << 17]byte{5: 5})
	great.Send()
	great.Deliver()
	if x, ok := great.Take(); !ok || x[5] != 5 {
		t.Error("P6.1: great things")
	}
	functions := flow.New[func() int](1, 1)
	functions.Offer(func() int { return 5 })
	functions.Send()
	functions.Deliver()
	if f, ok := functions.Take(); !ok || f() != 5 {
		t.Error("P6.1: functions")
	}
}

func TestChannelsAreApart(t *testing.T) {
	a, b := filled(3, 1, 1, 1), filled(3, 1, 1, 2)
	b.Kill(2)
	b.Offer(7)
	has(t, "P6.1: one", a, counts{1, 1, 1, 1, 1})
	has(t, "P6.1: other", b, counts{backlog: 1, credits: 3, most: 1})
	if a.Epoch() != 1 || b.Epoch() != 2 {
		t.Error("P6.2: the epochs")
	}
	drains(t, "P6.2: one", a, 0, 1, 2)
	drains(t, "P6.2: other", b, 7)
}

// TestWhatIsGoneIsntHeld: by Take, by a Deliver that is refused, by Drain, by Kill; what is there is held.
func TestWhatIsGoneIsntHeld(t *testing.T) {
	c := flow.New[*[64]byte](10, 1)
	var seen []weak.Pointer[[64]byte]
	offer := func(n int) {
		seen = nil
		for range n {
			x := new([64]byte)
			seen = append(seen, weak.Make(x))
			c.Offer(x)
		}
	}
	gone := func(what string, first int) {
		t.Helper()
		runtime.GC()
		for i, p := range seen {
			if none := p.Value() == nil; none != (i < first) {
				t.Fatalf("%s: the %d-th thing, gone: %v", what, i, none)
			}
		}
	}
	offer(40)
	for range 7 {
		c.Send()
		c.Deliver()
	}
	for range 3 {
		c.Send()
	}
	gone("P6.1: none taken", 0)
	for range 7 {
		c.Take()
	}
	gone("P6.1: seven taken", 7)
	c.Arrive(1, 8, nil)
	c.Deliver()
	gone("P6.1: one refused", 8)
	c.Drain()
	gone("P6.2: Drain", 40)
	offer(40)
	for range 5 {
		c.Send()
		c.Deliver()
		c.Send()
	}
	c.Kill(1)
	gone("P6.2: Kill", 40)
	runtime.KeepAlive(c)
}

// TestManyGoneBy: what is kept goes with what is there, not with what was.
func TestManyGoneBy(t *testing.T) {
	var before, behind runtime.MemStats
	runtime.GC()
	runtime.ReadMemStats(&before)
	c := filled(64, 0, 0, 3)
	for range 1000 {
		for i := range 2000 {
			c.Offer(i)
		}
		for range 2000 {
			c.Send()
			c.Deliver()
			c.Take()
		}
	}
	runtime.GC()
	runtime.ReadMemStats(&behind)
	has(t, "P6.1: three", c, counts{backlog: 3, credits: 64, most: 1})
	if behind.HeapAlloc > before.HeapAlloc+1<<18 {
		t.Errorf("three things hold %d bytes", behind.HeapAlloc-before.HeapAlloc)
	}
	runtime.KeepAlive(c)
}
