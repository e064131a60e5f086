package net_test

import (
	"math/rand"
	"slices"
	"testing"

	"leat/api"
	"leat/net"
)

// plainLink: a link as the chapter tells it, over a list; beside it what was sent and delivered since the last Kill.
type plainLink struct {
	own              uint64
	under, sent, got []int
}

func (p *plainLink) kill(epoch uint64) {
	p.under, p.sent, p.got = nil, nil, nil
	if epoch > p.own {
		p.own = epoch
	}
}

func (p *plainLink) send(epoch uint64, x int) api.Errno {
	if epoch != p.own {
		return api.ErrNetEpoch
	}
	p.under, p.sent = append(p.under, x), append(p.sent, x)
	return api.OK
}

func (p *plainLink) deliver() (int, api.Errno) {
	if len(p.under) == 0 {
		return 0, api.ErrNetEmpty
	}
	x := p.under[0]
	p.under = p.under[1:]
	return x, api.OK
}

func (p *plainLink) call(t *testing.T, r *rand.Rand, l *net.Link[int]) {
	t.Helper()
	x, epoch := r.Intn(1000)+1, p.own+uint64(r.Intn(3))-1
	switch n := r.Intn(80); {
	case n == 0:
		p.kill(epoch)
		l.Kill(epoch)
	case n < 45:
		answers(t, "P5.1: Send at random", l.Send(epoch, x), p.send(epoch, x))
	default:
		want, none := p.deliver()
		got, e := l.Deliver()
		if got != want || e != none {
			t.Errorf("P5.1: Deliver at random: %d, %v, wanted %d, %v", got, e, want, none)
		}
		if e == api.OK {
			p.got = append(p.got, got)
		}
	}
}

func TestRandomLinks(t *testing.T) {
	for seed := range int64(300) {
		r := rand.New(rand.NewSource(seed))
		p := &plainLink{own: uint64(r.Intn(3))}
		l := net.New[int](p.own)
		for range 300 {
			p.call(t, r, l)
			holds(t, "P5.1: at random", l, p.own, p.under...)
			if len(p.got) > len(p.sent) || !slices.Equal(p.got, p.sent[:len(p.got)]) {
				t.Errorf("P5.3: delivered %v of %v", p.got, p.sent)
			}
		}
		if t.Failed() {
			t.Fatalf("seed %d", seed)
		}
	}
}

type letter struct{ to, x int }

// plainCloud: a cloud as the chapter tells it, over a list; beside it how often each message was told, -1 of one that was lost.
type plainCloud struct {
	under []letter
	told  []int
}

func (p *plainCloud) send(to int) int {
	x := len(p.told)
	p.under, p.told = append(p.under, letter{to, x}), append(p.told, 0)
	return x
}

// place: by counting up and down alone.
func (p *plainCloud) place(i int) int {
	for i < 0 {
		i += len(p.under)
	}
	for i >= len(p.under) {
		i -= len(p.under)
	}
	return i
}

func (p *plainCloud) pick(i, how int) (letter, bool, api.Errno) {
	if len(p.under) == 0 {
		return letter{}, false, api.ErrNetEmpty
	}
	at := p.place(i)
	m := p.under[at]
	if how != 1 {
		p.under = slices.Delete(p.under, at, at+1)
	}
	if how == 2 {
		p.told[m.x] = -1
		return letter{}, false, api.OK
	}
	return m, true, api.OK
}

// call: one call at random, of the cloud and of the plain one. lean says how often it is Send.
func (p *plainCloud) call(t *testing.T, r *rand.Rand, c *net.Cloud[int], lean int) {
	t.Helper()
	if r.Intn(10) < lean {
		to := r.Intn(9) - 4
		c.Send(to, p.send(to))
		return
	}
	i, how := r.Intn(6000)-3000, r.Intn(6)-1
	want, there, none := p.pick(i, how)
	to, x, ok, e := c.Pick(i, how)
	if to != want.to || x != want.x || ok != there || e != none {
		t.Fatalf("P5.2: Pick(%d, %d) at random: %d, %d, %v, %v, wanted %v, %v, %v", i, how, to, x, ok, e, want, there, none)
	}
	if ok {
		p.told[x]++
	}
}

// TestRandomClouds: now few messages are under way and now many.
func TestRandomClouds(t *testing.T) {
	for seed := range int64(50) {
		r := rand.New(rand.NewSource(seed))
		p, c := &plainCloud{}, net.NewCloud[int]()
		for i := range 8000 {
			p.call(t, r, c, []int{9, 4, 7, 1}[i/1000%4])
			if c.Len() != len(p.under) {
				t.Fatalf("P5.2: seed %d: Len %d, wanted %d", seed, c.Len(), len(p.under))
			}
		}
		for c.Len() > 0 {
			_, x, _, _ := c.Pick(r.Intn(100), 0)
			p.told[x]++
		}
		for x, n := range p.told {
			if n == 0 {
				t.Fatalf("P5.3: seed %d: %d was neither lost nor told", seed, x)
			}
		}
	}
}
