package ring_test

import (
	"math/rand"
	"slices"
	"testing"

	"leat/ring"
)

// plain: a ring as the chapter tells it, over a list that is made anew by each call.
type plain struct {
	most int
	list []int
}

func (p *plain) room() int { return max(p.most-len(p.list), 0) }

func (p *plain) put(x int) bool {
	if len(p.list) >= p.most {
		return false
	}
	p.list = append(slices.Clone(p.list), x)
	return true
}

func (p *plain) front(x int) bool {
	if len(p.list) >= 2*p.most {
		return false
	}
	p.list = append([]int{x}, p.list...)
	return true
}

func (p *plain) take() (int, bool) {
	if len(p.list) == 0 {
		return 0, false
	}
	x := p.list[0]
	p.list = slices.Clone(p.list[1:])
	return x, true
}

// call: one call at random, of the ring and of the plain one. lean says which calls come more often, so that the ring fills and empties.
func (p *plain) call(t *testing.T, r *rand.Rand, q *ring.Ring[int], lean int) {
	t.Helper()
	x := r.Intn(1000) + 1
	switch n := r.Intn(100); {
	case n < 15+lean:
		says(t, "P4.1: Put", q.Put(x), p.put(x))
	case n < 30+2*lean:
		says(t, "P4.1: Front", q.Front(x), p.front(x))
	case n < 98:
		got, ok := q.Take()
		if want, there := p.take(); got != want || ok != there {
			t.Errorf("P4.1: Take: %d, %v, wanted %d, %v", got, ok, want, there)
		}
	case n < 99 && lean == 0:
		q.Clear()
		p.list = nil
	}
}

func TestRandomCalls(t *testing.T) {
	for seed := range int64(200) {
		r := rand.New(rand.NewSource(seed))
		most := []int{1, 2, 3, 5, 16, 33}[r.Intn(6)]
		p, q := &plain{most: most}, ring.New[int](most)
		for range 20 {
			lean := []int{0, 15, 30}[r.Intn(3)]
			for range 40 {
				p.call(t, r, q, lean)
				holds(t, "P4.1: at random", q, p.room(), p.list...)
			}
			q = ring.Map(q, func(x int) int { return -x })
			for i := range p.list {
				p.list[i] = -p.list[i]
			}
			holds(t, "P4.1: Map at random", q, p.room(), p.list...)
		}
		if t.Failed() {
			t.Fatalf("seed %d", seed)
		}
	}
}

// TestRandomTries: two queues, sent to and asked at random.
func TestRandomTries(t *testing.T) {
	for seed := range int64(200) {
		r := rand.New(rand.NewSource(seed))
		var p [2]*plain
		var q [2]*ring.Try[int]
		for i := range 2 {
			most := 1 + r.Intn(4)
			p[i], q[i] = &plain{most: most}, ring.NewTry[int](most)
		}
		for range 300 {
			i, x := r.Intn(2), r.Intn(1000)+1
			switch r.Intn(4) {
			case 0:
				want, ok := p[i].take()
				if got, there := q[i].Receive(); got != want || there != ok {
					t.Fatalf("P4.2: seed %d: Receive: %d, %v, wanted %d, %v", seed, got, there, want, ok)
				}
			case 1:
				want, of := p[i].take()
				place := 0
				if !of {
					want, of = p[1-i].take()
					place = 1
				}
				if !of {
					place = -1
				}
				either(t, "P4.2: at random", q[i], q[1-i], want, place)
			default:
				says(t, "P4.2: Send", q[i].Send(x), p[i].put(x))
			}
		}
	}
}
