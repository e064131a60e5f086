package vault_test

import (
	"math/rand"
	"slices"
	"testing"

	"leat/api"
	"leat/disk"
	"leat/vault"
)

// life: a vault that goes through calls at random, and what must be there: sure; what may be found by the next Open beside: perhaps.
type life struct {
	r       *rand.Rand
	d       *disk.Disk
	v       *vault.Vault
	keep    int
	sure    []laid
	perhaps []laid
}

func randomParts(r *rand.Rand) []api.Snap {
	var list []api.Snap
	for range r.Intn(4) {
		s := api.Snap{Task: r.Intn(1 << 16), Offset: r.Intn(1 << 16), Mark: int64(r.Uint64())}
		for range r.Intn(3) {
			s.Marks = append(s.Marks, int64(r.Uint64()))
		}
		for range r.Intn(3) {
			s.Panes = append(s.Panes, api.Pane{Key: int64(r.Uint64()), Acc: int64(r.Uint64())})
		}
		list = append(list, s)
	}
	return list
}

func (l *life) newest() uint64 {
	if len(l.sure) == 0 {
		return 0
	}
	return l.sure[len(l.sure)-1].n
}

func (l *life) put(t *testing.T) {
	s := laid{l.newest() + uint64(l.r.Intn(4)), l.r.Uint64(), randomParts(l.r)}
	dead := l.d.Dead()
	e := put(l.v, s)
	switch {
	case s.n <= l.newest():
		answers(t, "P3.1: not above", e, api.ErrVaultOld)
	case dead:
		answers(t, "P3.1: dead", e, api.ErrDiskDead)
	case e == api.ErrDiskDead && l.d.Dead():
		l.perhaps = append(l.perhaps, s)
	case e == api.OK:
		l.sure = append(l.sure, s)
		beyond := max(len(l.sure)-l.keep, 0)
		if l.d.Dead() {
			l.perhaps = append(l.perhaps, l.sure[:beyond]...)
		}
		l.sure = slices.Clone(l.sure[beyond:])
	default:
		answers(t, "P3.4: no room", e, api.ErrDiskFull)
	}
}

func (l *life) crash() {
	keep := make([]int, l.r.Intn(20))
	for i := range keep {
		keep[i] = l.r.Intn(80) - 5
	}
	l.d.Crash(keep)
}

// reopen: what Open finds is what was sure, and of the rest what may be; from then on it is sure.
func (l *life) reopen(t *testing.T) {
	keep := l.r.Intn(5) - 1
	v, e := vault.Open(l.d, keep)
	if l.d.Dead() {
		answers(t, "P3.1: Open of a dead one", e, api.ErrDiskDead)
		return
	}
	answers(t, "P3.1: Open", e, api.OK)
	var found []laid
	for _, n := range v.List() {
		at := slices.IndexFunc(l.sure, func(s laid) bool { return s.n == n })
		if at >= 0 {
			found = append(found, l.sure[at])
			continue
		}
		at = slices.IndexFunc(l.perhaps, func(s laid) bool { return s.n == n && just(v, s) })
		if at < 0 {
			t.Fatalf("P3.3: %d was never put, or not so", n)
		}
		found = append(found, l.perhaps[at])
	}
	for _, s := range l.sure {
		if !v.Has(s.n) {
			t.Fatalf("P3.3: %d isn't found", s.n)
		}
	}
	l.v, l.keep, l.sure, l.perhaps = v, max(keep, 1), found, nil
}

func (l *life) step(t *testing.T) {
	switch l.r.Intn(10) {
	case 0:
		l.d.Cut(l.r.Intn(14) - 2)
	case 1:
		l.crash()
	case 2:
		l.crash()
		l.reopen(t)
	case 3:
		l.reopen(t)
	case 4:
		l.d.Room(l.r.Intn(1200))
	case 5:
		l.d.Write("x"+string(rune('a'+l.r.Intn(3))), make([]byte, l.r.Intn(50)))
	default:
		l.put(t)
	}
}

// TestLivesAtRandom: calls at random, held against what the chapter says must be there.
func TestLivesAtRandom(t *testing.T) {
	for seed := range int64(400) {
		r := rand.New(rand.NewSource(seed))
		d := disk.New(600)
		l := &life{r: r, d: d, v: open(t, d, 2), keep: 2}
		for range 100 {
			l.step(t)
			holds(t, "P3.2", l.v, l.sure...)
			if t.Failed() {
				t.Fatalf("seed %d", seed)
			}
		}
	}
}
