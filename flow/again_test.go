package flow_test

import (
	"math/rand"
	"slices"
	"testing"

	"leat/api"
	"leat/flow"
)

type sent struct {
	epoch, seq uint64
	x          int
}

// plain: a channel as the chapter tells it, over lists.
type plain struct {
	credits          int
	backlog, waiting []int
	moving           []sent
	send, receive    uint64
	most             int
	epoch            uint64
}

func (p *plain) left() int { return p.credits - len(p.moving) - len(p.waiting) }

func (p *plain) sends() bool {
	if len(p.backlog) == 0 || p.left() <= 0 {
		return false
	}
	p.moving = append(p.moving, sent{p.epoch, p.send, p.backlog[0]})
	p.backlog = p.backlog[1:]
	p.send++
	return true
}

func (p *plain) deliver() api.Errno {
	if len(p.moving) == 0 {
		return api.ErrNetEmpty
	}
	m := p.moving[0]
	p.moving = p.moving[1:]
	return p.arrive(m.epoch, m.seq, m.x)
}

func (p *plain) arrive(epoch, seq uint64, x int) api.Errno {
	switch {
	case epoch != p.epoch:
		return api.ErrFlowEpoch
	case seq != p.receive, len(p.waiting) == p.credits:
		return api.ErrFlowSeq
	}
	p.waiting = append(p.waiting, x)
	p.receive++
	p.most = max(p.most, len(p.waiting))
	return api.OK
}

func (p *plain) take() (int, bool) {
	if len(p.waiting) == 0 {
		return 0, false
	}
	x := p.waiting[0]
	p.waiting = p.waiting[1:]
	return x, true
}

func (p *plain) drain() []int {
	list := slices.Clone(p.waiting)
	for _, m := range p.moving {
		list = append(list, m.x)
	}
	list = append(list, p.backlog...)
	p.waiting, p.moving, p.backlog = nil, nil, nil
	p.receive = p.send
	return list
}

func (p *plain) kill(epoch uint64) {
	p.waiting, p.moving, p.backlog = nil, nil, nil
	p.send, p.receive = 1, 1
	if epoch > p.epoch {
		p.epoch = epoch
	}
}

// call: one call at random, of the channel and of the plain one. By itself things arrive only if alone holds.
func (p *plain) call(t *testing.T, r *rand.Rand, c *flow.Channel[int], alone bool) {
	t.Helper()
	x, epoch := r.Intn(1000)+1, p.epoch+uint64(r.Intn(3))-1
	switch n := r.Intn(200); {
	case n == 0:
		p.kill(epoch)
		c.Kill(epoch)
	case n == 1:
		drains(t, "P6.2: at random", c, p.drain()...)
	case n < 10 && alone:
		seq := p.receive + uint64(r.Intn(3)) - 1
		answers(t, "P6.1: Arrive at random", c.Arrive(epoch, seq, x), p.arrive(epoch, seq, x))
	case n < 60:
		p.backlog = append(p.backlog, x)
		c.Offer(x)
	case n < 110:
		says(t, "P6.1: Send at random", c.Send(), p.sends())
	case n < 160:
		answers(t, "P6.1: Deliver at random", c.Deliver(), p.deliver())
	default:
		want, there := p.take()
		if got, ok := c.Take(); got != want || ok != there {
			t.Errorf("P6.1: Take at random: %d, %v, wanted %d, %v", got, ok, want, there)
		}
	}
}

func (p *plain) same(t *testing.T, c *flow.Channel[int]) {
	t.Helper()
	has(t, "P6.2: at random", c, counts{len(p.backlog), len(p.moving), len(p.waiting), p.left(), p.most})
	waits(t, "P6.1: at random", c, p.waiting...)
	if c.Epoch() != p.epoch {
		t.Errorf("P6.2: Epoch at random: %d, wanted %d", c.Epoch(), p.epoch)
	}
}

func TestRandomCalls(t *testing.T) {
	for seed := range int64(400) {
		r := rand.New(rand.NewSource(seed))
		p := &plain{credits: []int{1, 2, 3, 8, 64}[r.Intn(5)], send: 1, receive: 1, epoch: uint64(r.Intn(3))}
		c := flow.New[int](p.credits, p.epoch)
		for range 400 {
			p.call(t, r, c, seed%2 == 0)
			p.same(t, c)
			if seed%2 == 1 && c.Moving()+c.Waiting() > p.credits {
				t.Errorf("P6.3: %d move and %d wait, of %d credits", c.Moving(), c.Waiting(), p.credits)
			}
		}
		if t.Failed() {
			t.Fatalf("seed %d", seed)
		}
	}
}

// TestWhatIsTaken: whatever is called when, but Drain and Kill, what is taken is a beginning of what was offered; and all of it, at last.
func TestWhatIsTaken(t *testing.T) {
	for seed := range int64(100) {
		r := rand.New(rand.NewSource(seed))
		credits := 1 + r.Intn(5)
		c := flow.New[int](credits, 1)
		for round := range 3 {
			offered, taken := 0, 0
			for i := range 5000 {
				switch r.Intn(5) {
				case 0:
					if i < 1000 {
						c.Offer(offered)
						offered++
					}
				case 1:
					c.Send()
				case 2:
					if e := c.Deliver(); e != api.OK && e != api.ErrNetEmpty {
						t.Fatalf("P6.3: seed %d: Deliver: %v", seed, e)
					}
				case 3:
					if x, ok := c.Take(); ok && x != taken {
						t.Fatalf("P6.3: seed %d: taken %d, wanted %d", seed, x, taken)
					} else if ok {
						taken++
					}
				}
				if c.Moving()+c.Waiting() > credits {
					t.Fatalf("P6.3: seed %d: %d move and %d wait", seed, c.Moving(), c.Waiting())
				}
			}
			if taken != offered {
				t.Fatalf("P6.3: seed %d: taken %d of %d", seed, taken, offered)
			}
			takesNone(t, "P6.3: each once", c)
			c.Kill(uint64(2 + round))
		}
	}
}
