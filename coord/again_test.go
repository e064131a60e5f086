package coord_test

import (
	"math/rand"
	"slices"
	"testing"

	"leat/api"
	"leat/coord"
)

// Kinds of what a plain coordinator writes down, beside those of messages.
const (
	began = iota + 100 // an epoch; n: from
	ticked
	triggered
	gaveUp
	stored
)

// noted: one thing that happened to a plain coordinator.
type noted struct {
	kind, task int
	n          uint64
}

// plain: a coordinator that keeps all that it was ever told, and works all else out of that.
type plain struct {
	tasks, sinks      []int
	interval, timeout int
	epoch, greatest   uint64
	l                 []noted
}

func (p *plain) note(kind int, n uint64) { p.l = append(p.l, noted{kind: kind, n: n}) }

// last: the place of the last note of one of some kinds; -1: there is none.
func (p *plain) last(kinds ...int) int {
	for i := len(p.l) - 1; i >= 0; i-- {
		if slices.Contains(kinds, p.l[i].kind) {
			return i
		}
	}
	return -1
}

// heard: whether such a message came behind a place.
func (p *plain) heard(kind int, n uint64, task, behind int) bool {
	return slices.Contains(p.l[behind+1:], noted{kind: kind, n: n, task: task})
}

// silent: those of a list of whom no such message came behind a place.
func (p *plain) silent(l []int, kind int, n uint64, behind int) []int {
	return slices.DeleteFunc(slices.Clone(l), func(task int) bool { return p.heard(kind, n, task, behind) })
}

func (p *plain) from() uint64 { return p.l[p.last(began)].n }

func (p *plain) durable() uint64 {
	if i := p.last(began, stored); i >= 0 {
		return p.l[i].n
	}
	return 0
}

func (p *plain) under() uint64 {
	if i := p.last(began, triggered, gaveUp, stored); i >= 0 && p.l[i].kind == triggered {
		return p.l[i].n
	}
	return 0
}

func (p *plain) unready() []int {
	return p.silent(p.tasks, api.CtlReady, p.from(), p.last(began))
}

func (p *plain) unacked() []int {
	return p.silent(p.tasks, api.CtlAck, p.under(), p.last(triggered))
}

func (p *plain) undone() []int {
	if p.durable() == 0 {
		return nil
	}
	return p.silent(p.sinks, api.CtlDone, p.durable(), p.last(began, stored))
}

func (p *plain) atStore() bool { return p.under() > 0 && len(p.unacked()) == 0 }

func (p *plain) patience() int {
	wait := p.timeout
	for _, x := range p.l[p.last(began, stored)+1:] {
		if x.kind == gaveUp && x.task == 0 { // not by Stored
			wait = min(2*wait, 1<<20)
		}
	}
	return wait
}

// since: how many ticks came behind a place.
func (p *plain) since(place int) int {
	ticks := 0
	for _, x := range p.l[place+1:] {
		if x.kind == ticked {
			ticks++
		}
	}
	return ticks
}

func (p *plain) begin(epoch, from, last uint64) []api.Control {
	if epoch <= p.epoch {
		return nil
	}
	p.epoch = epoch
	p.greatest = max(p.greatest, from, last)
	p.note(began, from)
	return to(api.CtlRestore, epoch, from, p.tasks...)
}

func (p *plain) tick() []api.Control {
	if p.epoch == 0 {
		return nil
	}
	if l := p.unready(); len(l) > 0 {
		return to(api.CtlRestore, p.epoch, p.from(), l...)
	}
	p.note(ticked, 0)
	told := to(api.CtlCommit, p.epoch, p.durable(), p.undone()...)
	if p.atStore() {
		return told
	}
	if p.under() > 0 && p.since(p.last(triggered)) >= p.patience() {
		p.note(gaveUp, p.under())
	}
	if p.under() == 0 && p.since(p.last(began, triggered)) >= p.interval {
		p.greatest++
		p.note(triggered, p.greatest)
	}
	if p.under() == 0 {
		return told
	}
	return append(told, to(api.CtlTrigger, p.epoch, p.under(), p.unacked()...)...)
}

func (p *plain) take(m api.Control) uint64 {
	if m.Epoch != p.epoch || p.epoch == 0 {
		return 0
	}
	was := p.atStore()
	p.l = append(p.l, noted{kind: m.Kind, task: m.Task, n: m.N})
	if p.atStore() && !was {
		return p.under()
	}
	return 0
}

func (p *plain) store(n uint64, ok bool) []api.Control {
	if n != p.under() || !p.atStore() {
		return nil
	}
	if !ok {
		p.l = append(p.l, noted{kind: gaveUp, n: n, task: 1})
		return nil
	}
	p.note(stored, n)
	return to(api.CtlCommit, p.epoch, n, p.sinks...)
}

func (p *plain) settled() bool {
	return p.epoch > 0 && len(p.unready()) == 0 && p.under() == 0 && len(p.undone()) == 0
}

// someMessage: mostly one that counts.
func someMessage(r *rand.Rand, p *plain) api.Control {
	m := api.Control{Kind: []int{api.CtlReady, api.CtlAck, api.CtlDone}[r.Intn(3)], Epoch: p.epoch, Task: p.tasks[r.Intn(len(p.tasks))]}
	m.N = map[int]uint64{api.CtlReady: p.durable(), api.CtlAck: p.under(), api.CtlDone: p.durable()}[m.Kind]
	switch r.Intn(20) {
	case 0:
		m.Kind = r.Intn(8)
	case 1:
		m.N = uint64(r.Intn(int(p.greatest) + 2))
	case 2:
		m.Epoch = uint64(r.Intn(int(p.epoch) + 3))
	case 3:
		m.Task = r.Intn(5)
	}
	return m
}

// TestRandomCalls: held against a plain coordinator, behind each call.
func TestRandomCalls(t *testing.T) {
	var met struct{ triggers, stores, doubled, commits, begun, settled int }
	for seed := range int64(2400) {
		r := rand.New(rand.NewSource(seed))
		tasks, sinks := r.Perm(5)[:1+r.Intn(4)], []int(nil)
		for _, task := range r.Perm(5)[:r.Intn(5)] {
			if slices.Contains(tasks, task) {
				sinks = append(sinks, task)
			}
		}
		p := &plain{tasks: tasks, sinks: sinks, interval: 1 + r.Intn(4), timeout: 1 + r.Intn(4)}
		c := coord.New(tasks, sinks, p.interval, p.timeout)
		for range 200 {
			switch k := r.Intn(100); {
			case k == 0:
				epoch, from, last := p.epoch+uint64(r.Intn(3)), uint64(r.Intn(int(p.greatest)+2)), uint64(r.Intn(int(p.greatest)+4))
				tells(t, "P18.1: random", c.Begin(epoch, from, last), p.begin(epoch, from, last))
				met.begun++
			case k < 20:
				was := p.under()
				got := c.Tick()
				tells(t, "P18.2: random", got, p.tick())
				if p.under() != was {
					met.triggers++
				}
			case k < 30:
				n, ok := p.under(), r.Intn(3) > 0
				if r.Intn(8) == 0 {
					n = uint64(r.Intn(int(p.greatest) + 2))
				}
				got := c.Stored(n, ok)
				tells(t, "P18.4: random", got, p.store(n, ok))
				met.commits += len(got)
			default:
				m := someMessage(r, p)
				got, l := c.Take(m)
				if want := p.take(m); got != want || len(l) > 0 {
					t.Errorf("P18.3: random: Take(%v): %d, %v, wanted %d", m, got, l, want)
				}
				met.stores += int(min(got, 1))
			}
			want := looked{epoch: p.epoch, under: p.under(), durable: p.durable(), timeout: p.patience()}
			if p.epoch > 0 {
				want.settled = p.settled()
			}
			want.is(t, "P18.4: random", c)
			if t.Failed() {
				t.Fatalf("seed %d: tasks %v, sinks %v, interval %d, timeout %d", seed, tasks, sinks, p.interval, p.timeout)
			}
			if want.timeout > p.timeout {
				met.doubled++
			}
			if want.settled {
				met.settled++
			}
		}
	}
	if min(met.triggers, met.stores, met.doubled, met.commits, met.begun, met.settled) < 1000 {
		t.Errorf("P18: too few were met: %+v", met)
	}
}

// life: tasks that do as they are told, a cloud that loses, doubles and keeps back messages, and what all coordinators triggered.
type life struct {
	r        *rand.Rand
	c        *coord.Coord
	cloud    []api.Control
	epochs   []uint64 // of each task
	restored []uint64 // what from
	taken    []uint64 // each task's greatest checkpoint
	sunk     []uint64 // each sink's greatest commit
	durable  uint64
	begun    map[uint64]uint64 // numbers that were triggered, by whom: an epoch
	greatest uint64
}

// tell: to the cloud; a message may be lost, or doubled.
func (x *life) tell(t *testing.T, l []api.Control) {
	t.Helper()
	for _, m := range l {
		if m.Kind == api.CtlTrigger {
			if epoch := x.begun[m.N]; epoch != 0 && epoch != m.Epoch || epoch == 0 && m.N <= x.greatest {
				t.Fatalf("P18.5: %v comes again", m)
			}
			x.begun[m.N] = m.Epoch
			x.greatest = max(x.greatest, m.N)
		}
		for range x.r.Intn(4) {
			x.cloud = append(x.cloud, m)
		}
	}
}

// deliver: one message, whichever comes first.
func (x *life) deliver(t *testing.T) {
	t.Helper()
	if len(x.cloud) == 0 {
		return
	}
	i := x.r.Intn(len(x.cloud))
	m := x.cloud[i]
	x.cloud = slices.Delete(x.cloud, i, i+1)
	answer := m
	switch m.Kind {
	case api.CtlRestore:
		if m.Epoch > x.epochs[m.Task] {
			x.epochs[m.Task], x.restored[m.Task], x.taken[m.Task] = m.Epoch, m.N, m.N
		}
		answer.Kind = api.CtlReady
		x.answer(t, answer, x.epochs[m.Task] == m.Epoch && x.restored[m.Task] == m.N)
	case api.CtlTrigger:
		x.taken[m.Task] = max(x.taken[m.Task], m.N)
		answer.Kind = api.CtlAck
		x.answer(t, answer, x.epochs[m.Task] == m.Epoch && x.taken[m.Task] == m.N)
	case api.CtlCommit:
		x.sunk[m.Task] = max(x.sunk[m.Task], m.N)
		answer.Kind = api.CtlDone
		x.answer(t, answer, x.epochs[m.Task] == m.Epoch)
	default:
		n, _ := x.c.Take(m)
		if n > 0 {
			x.store(t, n)
		}
	}
}

func (x *life) answer(t *testing.T, m api.Control, due bool) {
	t.Helper()
	if due {
		x.tell(t, []api.Control{m})
	}
}

func (x *life) store(t *testing.T, n uint64) {
	t.Helper()
	ok := x.r.Intn(4) > 0
	if ok {
		if n <= x.durable {
			t.Fatalf("P18.5: %d is durable, %d was", n, x.durable)
		}
		x.durable = n
	}
	x.tell(t, x.c.Stored(n, ok))
}

// crash: the coordinator goes, with all that it knew; of numbers it knows the durable one alone, and where they went on from the epoch.
func (x *life) crash(t *testing.T) {
	t.Helper()
	epoch := x.c.Epoch() + 1
	x.c = coord.New([]int{0, 1, 2, 3}, []int{1, 3}, 2, 5)
	x.tell(t, x.c.Begin(epoch, x.durable, x.greatest))
}

// TestLives: though messages are lost, doubled, late and out of turn, and coordinators crash, numbers never come again, and all come to be settled at a later checkpoint.
func TestLives(t *testing.T) {
	crashes, durables := 0, 0
	for seed := range int64(200) {
		x := &life{r: rand.New(rand.NewSource(seed)), c: coord.New([]int{0, 1, 2, 3}, []int{1, 3}, 2, 5), begun: map[uint64]uint64{},
			epochs: make([]uint64, 4), restored: make([]uint64, 4), taken: make([]uint64, 4), sunk: make([]uint64, 4)}
		x.tell(t, x.c.Begin(1, 0, 0))
		for range 400 {
			switch k := x.r.Intn(100); {
			case k == 0:
				x.crash(t)
				crashes++
			case k < 15:
				x.tell(t, x.c.Tick())
			default:
				x.deliver(t)
			}
			if x.c.Durable() != x.durable {
				t.Fatalf("P18.4: seed %d: Durable %d, wanted %d", seed, x.c.Durable(), x.durable)
			}
		}
		was, turns := x.durable, 0
		for ; x.durable == was || !x.c.Settled(); turns++ {
			x.tell(t, x.c.Tick())
			for range len(x.cloud) {
				x.deliver(t)
			}
			if turns == 2000 {
				t.Fatalf("P18.5: seed %d: it never comes to an end: %+v", seed, look(x.c))
			}
		}
		if x.sunk[1] != x.durable || x.sunk[3] != x.durable {
			t.Fatalf("P18.4: seed %d: settled at %d, committed %v", seed, x.durable, x.sunk)
		}
		durables += int(min(was, 1))
	}
	if crashes < 100 || durables < 50 {
		t.Errorf("P18.5: only %d crashes, %d lives with something durable", crashes, durables)
	}
}

// TestMany: of very many tasks each call is soon at an end.
func TestMany(t *testing.T) {
	const many = 1 << 17
	var tasks []int
	for i := range many {
		tasks = append(tasks, 7*i)
	}
	c := coord.New(append(tasks, tasks...), append(tasks, tasks...), 1, 3)
	tells(t, "P18.1: many", c.Begin(1, 0, 0), to(api.CtlRestore, 1, 0, tasks...))
	take(c, api.CtlReady, 1, 0, tasks...)
	take(c, api.CtlReady, 1, 0, tasks...)
	tells(t, "P18.2: many", c.Tick(), to(api.CtlTrigger, 1, 1, tasks...))
	acks(t, "P18.3: many", c, 1, 1, 0, tasks[1:]...)
	tells(t, "P18.2: many", c.Tick(), to(api.CtlTrigger, 1, 1, 0))
	acks(t, "P18.3: many", c, 1, 1, 1, 0)
	tells(t, "P18.4: many", c.Stored(1, true), to(api.CtlCommit, 1, 1, tasks...))
	take(c, api.CtlDone, 1, 1, tasks...)
	looked{epoch: 1, durable: 1, timeout: 3, settled: true}.is(t, "P18.4: many", c)
}

// TestKept: nothing is kept of numbers and messages that are gone, nor of those that count for nothing.
func TestKept(t *testing.T) {
	const many = 1 << 18
	c := coord.New([]int{0, 1}, []int{1, -1, 5}, 1, 1)
	before := inUse()
	c.Begin(1, 0, 0)
	for n := range many {
		take(c, api.CtlReady, 1, 0, n, 0, 1)
		take(c, api.CtlAck, 1, uint64(n), n, 0)
		take(c, api.CtlDone, 1, uint64(n), n, 0, 1)
		take(c, api.CtlAck, 1, uint64(n), 1)
		c.Tick()
		c.Stored(c.Under(), n%2 == 0)
		take(c, n, uint64(n), uint64(n), n)
		c.Begin(1, uint64(n), uint64(n))
	}
	for n := range uint64(many) {
		c.Begin(n, n, n)
	}
	if grown := inUse() - before; grown > 1<<18 {
		t.Errorf("LANGUAGE 8: %d bytes are kept", grown)
	}
	if c.Epoch() != many-1 {
		t.Errorf("P18.4: Epoch %d", c.Epoch())
	}
}
