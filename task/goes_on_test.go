package task_test

import (
	"math/rand"
	"slices"
	"testing"

	"leat/api"
	"leat/plan"
	"leat/task"
)

// given: a frame, and what a task told of it.
type given struct {
	ch   int
	f    api.Frame
	out  []api.Out
	recs []api.Record
	part told
}

func (g given) same(o given) bool {
	return slices.Equal(g.out, o.out) && slices.Equal(g.recs, o.recs) && g.part.n == o.part.n && sameSnap(g.part.s, o.part.s)
}

func give(t *testing.T, k *task.Task, ch int, f api.Frame) given {
	t.Helper()
	g := given{ch: ch, f: f}
	var e api.Errno
	if g.out, g.recs, e = k.Frame(ch, f); e != api.OK {
		t.Fatalf("P16.2: Frame(%d, %+v): %v", ch, f, e)
	}
	g.part.n, g.part.s, _ = k.Snap()
	return g
}

func someData(r *rand.Rand) api.Frame {
	switch r.Intn(9) {
	case 0:
		return mark(end)
	case 1, 2:
		return mark(r.Int63n(50) - 10)
	}
	return frame(r.Int63n(9)-2, r.Int63n(60)-10, r.Int63n(9)-2)
}

// checkpoint: barriers along all channels, and frames along those alone whose barriers haven't come: of an unaligned one all of them are captured, and what they told is answered.
func checkpoint(t *testing.T, r *rand.Rand, k *task.Task, to []int, n uint64, over bool) (api.Snap, given) {
	t.Helper()
	var between, last given
	order := r.Perm(len(to))
	for i, at := range order {
		last = give(t, k, to[at], api.Frame{Kind: api.FrameBarrier, N: n, Over: over})
		for left := order[i+1:]; len(left) > 0 && r.Intn(4) > 0; {
			g := give(t, k, to[left[r.Intn(len(left))]], someData(r))
			if over {
				between.out, between.recs = append(between.out, g.out...), append(between.recs, g.recs...)
			}
		}
	}
	if last.part.n != n {
		t.Fatalf("P16.3: %d isn't whole", n)
	}
	return last.part.s, between
}

// onwards: any frames, and barriers of higher numbers.
func onwards(t *testing.T, r *rand.Rand, k *task.Task, to []int, n uint64) []given {
	t.Helper()
	var l []given
	for range 30 {
		f := someData(r)
		if r.Intn(3) == 0 {
			n += uint64(r.Intn(4) / 3)
			f = api.Frame{Kind: api.FrameBarrier, N: n + 1, Over: n%2 == 0}
		}
		if ch := to[r.Intn(len(to))]; !k.Blocked(ch) {
			l = append(l, give(t, k, ch, f))
		}
	}
	return l
}

// TestGoesOn: a task that is restored, another one or itself, tells of what was captured and of all that came behind its part what the first one told.
func TestGoesOn(t *testing.T) {
	whole := 0
	for seed := range int64(4000) {
		r := rand.New(rand.NewSource(seed))
		j := someJob(r)
		p := plan.Make(j)
		no := r.Intn(len(p.Tasks))
		to := plan.To(p, no)
		if len(to) == 0 {
			continue
		}
		k := task.New(j, p, no, nil)
		for range r.Intn(20) {
			give(t, k, to[r.Intn(len(to))], someData(r))
		}
		n := 1 + uint64(r.Intn(5))
		s, between := checkpoint(t, r, k, to, n, r.Intn(2) == 0)
		then := onwards(t, r, k, to, n)
		for i, k := range []*task.Task{task.New(j, p, no, nil), k, k} {
			got, recs, e := k.Restore(s)
			if e != api.OK || !slices.Equal(got, between.out) || !slices.Equal(recs, between.recs) {
				t.Fatalf("P16.4: seed %d, %d: Restore(%+v): %v, %v, %v, wanted %+v", seed, i, s, got, recs, e, between)
			}
			for _, g := range then {
				if now := give(t, k, g.ch, g.f); !now.same(g) {
					t.Fatalf("P16.5: seed %d, %d: Frame(%d, %+v): %+v, wanted %+v", seed, i, g.ch, g.f, now, g)
				}
				if g.part.n != 0 {
					whole++
				}
			}
		}
	}
	if whole < 2000 {
		t.Errorf("P16.5: only %d parts came behind a restore", whole)
	}
}

// TestSourceGoesOn: so does a source.
func TestSourceGoesOn(t *testing.T) {
	type step struct {
		out  []api.Out
		ok   bool
		part told
	}
	for seed := range int64(1000) {
		r := rand.New(rand.NewSource(seed))
		items := someItems(r)
		k := ofFan(t, 0, items...)
		for range r.Intn(len(items) + 1) {
			k.Read()
		}
		k.Trigger(5, false)
		_, s, _ := k.Snap()
		goOn := func(k *task.Task) []step {
			var l []step
			for n := range uint64(len(items) + 2) {
				x := step{out: k.Trigger(6+n, n%2 == 0)}
				x.part.n, x.part.s, _ = k.Snap()
				l = append(l, x)
				x = step{}
				x.out, x.ok = k.Read()
				l = append(l, x)
			}
			return l
		}
		want := goOn(k)
		for _, k := range []*task.Task{ofFan(t, 0, items...), k, k} {
			restores(t, "P16.4: a source", k, s)
			for i, x := range goOn(k) {
				if !slices.Equal(x.out, want[i].out) || x.ok != want[i].ok || x.part.n != want[i].part.n || !sameSnap(x.part.s, want[i].part.s) {
					t.Fatalf("P16.5: seed %d: %+v, wanted %+v", seed, x, want[i])
				}
			}
		}
	}
}
