package sink_test

import (
	"math/rand"
	"slices"
	"testing"

	"leat/api"
	"leat/sink"
)

// What became of a transaction of a plain log.
const (
	staged = iota
	committed
	aborted
)

// told: a transaction that a plain log was told, and what became of it; at: as the how manieth it was committed.
type told struct {
	part, what, at int
	n              uint64
	recs           []api.Record
}

// plain: a log that keeps all that it ever was told, in turn, and goes through it whatever is asked for.
type plain struct {
	l       []told
	commits int
}

// of: the numbers and places of a part's transactions of one kind; as a part's stand in rising order, so do these.
func (p *plain) of(part, what int) (numbers []uint64, at []int) {
	for i, x := range p.l {
		if x.part == part && x.what == what {
			numbers, at = append(numbers, x.n), append(at, i)
		}
	}
	return numbers, at
}

func (p *plain) last(part int) uint64 {
	numbers, _ := p.of(part, committed)
	return slices.Max(append(numbers, 0))
}

func (p *plain) stage(part int, n uint64, recs []api.Record) api.Errno {
	waiting, _ := p.of(part, staged)
	if n == 0 || n <= p.last(part) || slices.ContainsFunc(waiting, func(m uint64) bool { return n <= m }) {
		return api.ErrSinkOrder
	}
	p.l = append(p.l, told{part: part, what: staged, n: n, recs: slices.Clone(recs)})
	return api.OK
}

func (p *plain) commit(part int, n uint64) api.Errno {
	waiting, at := p.of(part, staged)
	if n <= p.last(part) {
		return api.OK
	}
	if !slices.Contains(waiting, n) {
		return api.ErrSinkNone
	}
	for i, m := range waiting {
		if m <= n {
			p.commits++
			p.l[at[i]].what, p.l[at[i]].at = committed, p.commits
		}
	}
	return api.OK
}

func (p *plain) abort(part int, n uint64) {
	waiting, at := p.of(part, staged)
	for i, m := range waiting {
		if m > n {
			p.l[at[i]].what = aborted
		}
	}
}

func (p *plain) all() []api.Record {
	var recs []api.Record
	for at := range p.commits {
		i := slices.IndexFunc(p.l, func(x told) bool { return x.what == committed && x.at == at+1 })
		recs = append(recs, p.l[i].recs...)
	}
	return recs
}

func (p *plain) upTo(part int, n uint64) []api.Record {
	var recs []api.Record
	for _, x := range p.l {
		if x.part == part && x.what != aborted && x.n <= n {
			recs = append(recs, x.recs...)
		}
	}
	return recs
}

func (p *plain) look() looked {
	want := looked{all: p.all(), last: map[int]uint64{}, staged: map[int][]uint64{}, upTo: map[int]map[uint64][]api.Record{}}
	for _, part := range someParts {
		want.last[part] = p.last(part)
		want.staged[part], _ = p.of(part, staged)
		want.upTo[part] = map[uint64][]api.Record{}
		for _, n := range someNumbers {
			want.upTo[part][n] = p.upTo(part, n)
		}
	}
	return want
}

func someRecs(r *rand.Rand) []api.Record {
	l := make([]api.Record, r.Intn(4))
	for i := range l {
		l[i] = api.Record{Key: r.Int63(), Time: r.Int63(), Val: r.Int63()}
	}
	return l
}

// TestRandomCalls: held against a plain log, behind each call; and All only ever grows.
func TestRandomCalls(t *testing.T) {
	var done [6]int // calls of each kind that were taken, and that were refused
	for seed := range int64(400) {
		r := rand.New(rand.NewSource(seed))
		l, p := sink.New(), &plain{}
		parts := someParts[:1+r.Intn(3)]
		var before []api.Record
		for range 60 {
			part, n, list := parts[r.Intn(len(parts))], uint64(r.Intn(13)), someRecs(r)
			if r.Intn(40) == 0 {
				n = someNumbers[r.Intn(len(someNumbers))]
			}
			var got, want api.Errno
			kind := r.Intn(5) / 2
			switch kind {
			case 0:
				got, want = l.Stage(part, n, list), p.stage(part, n, list)
			case 1:
				got, want = l.Commit(part, n), p.commit(part, n)
			case 2:
				l.Abort(part, n)
				p.abort(part, n)
			}
			if got != want {
				t.Fatalf("P17.1: seed %d: call %d of %d, %d: %v, wanted %v", seed, kind, part, n, got, want)
			}
			done[2*kind+min(int(want), 1)]++
			p.look().same(t, "P17.2", l)
			now := l.All()
			if len(now) < len(before) || !slices.Equal(now[:len(before)], before) {
				t.Fatalf("P17.3: seed %d: All was %v, is %v", seed, before, now)
			}
			before = now
			if t.Failed() {
				t.Fatalf("seed %d", seed)
			}
		}
	}
	for i, n := range done[:5] {
		if n < 1000 {
			t.Errorf("P17.1: only %d of kind %d", n, i)
		}
	}
}

// writer: a part's task, which writes one record a step, key by key from 1 on, and whose checkpoints may come to nothing.
type writer struct {
	part    int
	next    int64            // the next record's key
	pending []api.Record     // since the last checkpoint
	n       uint64           // the last checkpoint
	at      map[uint64]int64 // the next key, at each checkpoint
	durable uint64
}

func (w *writer) step() {
	w.pending = append(w.pending, api.Record{Key: w.next, Time: int64(w.part)})
	w.next++
}

func (w *writer) checkpoint(t *testing.T, l *sink.Log) {
	w.n++
	if e := l.Stage(w.part, w.n, w.pending); e != api.OK {
		t.Fatalf("P17.1: Stage(%d, %d): %v", w.part, w.n, e)
	}
	w.pending = nil
	w.at[w.n] = w.next
}

// crash: it goes on from what is durable; numbers come again, so that what was staged above must be gone.
func (w *writer) crash(l *sink.Log) {
	w.pending, w.n, w.next = nil, w.durable, w.at[w.durable]
	l.Abort(w.part, w.durable)
}

// TestTwoPhases: tasks crash, commits are told never, late, and twice; and each record that is committed is so once, in its turn.
func TestTwoPhases(t *testing.T) {
	crashes, written := 0, int64(0)
	for seed := range int64(300) {
		r := rand.New(rand.NewSource(seed))
		l := sink.New()
		var ws []*writer
		for part := range 3 {
			ws = append(ws, &writer{part: part - 1, next: 1, at: map[uint64]int64{0: 1}})
		}
		for range 300 {
			w := ws[r.Intn(len(ws))]
			switch r.Intn(8) {
			case 0:
				w.checkpoint(t, l)
			case 1:
				w.durable = w.n
			case 2:
				commits(t, "P17.3: what is durable is staged", l, w.part, w.durable)
			case 3:
				commits(t, "P17.3: what is late", l, w.part, uint64(r.Int63n(int64(l.Last(w.part))+1)))
			case 4:
				if r.Intn(4) == 0 {
					w.crash(l)
					crashes++
				}
			default:
				w.step()
			}
			inTurn(t, l, ws)
		}
		for _, w := range ws {
			written += w.at[l.Last(w.part)] - 1
		}
		if t.Failed() {
			t.Fatalf("seed %d", seed)
		}
	}
	if crashes < 1000 || written < 10000 {
		t.Errorf("P17.3: only %d crashes, %d records", crashes, written)
	}
}

// inTurn: each part's committed records are all those ahead of its last committed checkpoint, and the staged ones go on from there.
func inTurn(t *testing.T, l *sink.Log, ws []*writer) {
	t.Helper()
	all := l.All()
	for _, w := range ws {
		var of []api.Record
		for _, x := range all {
			if x.Time == int64(w.part) {
				of = append(of, x)
			}
		}
		last := l.Last(w.part)
		if !slices.Equal(of, keysOf(w, last)) || !slices.Equal(l.Upto(w.part, last), of) || !slices.Equal(l.Upto(w.part, w.n), keysOf(w, w.n)) {
			t.Fatalf("P17.3: of %d, up to %d: %v", w.part, last, of)
		}
	}
}

func keysOf(w *writer, n uint64) []api.Record {
	var l []api.Record
	for k := range w.at[n] - 1 {
		l = append(l, api.Record{Key: k + 1, Time: int64(w.part)})
	}
	return l
}

// TestLeftAlone: what Stage is handed stays and isn't kept; no answer is memory of the log's, nor of another answer; no log is another one.
func TestLeftAlone(t *testing.T) {
	l, other := sink.New(), sink.New()
	handed := recs(1, 2, 77, 88)
	l.Stage(0, 1, handed[:2])
	l.Stage(0, 2, handed[1:2])
	l.Commit(0, 1)
	if !slices.Equal(handed, recs(1, 2, 77, 88)) {
		t.Errorf("DOC 3: what was handed in is %v", handed)
	}
	spoil(handed, api.Record{Key: 99})
	was := look(l)
	for _, answer := range [][]api.Record{l.All(), l.Upto(0, 1), l.Upto(0, 2)} {
		spoil(answer, api.Record{Key: 99})
		was.same(t, "DOC 3", l)
	}
	spoil(l.Staged(0), 99)
	was.same(t, "DOC 3", l)
	all(t, "DOC 3", l, 1, 2)
	upTo(t, "DOC 3", l, 0, 2, 1, 2, 2)
	first, numbers := l.All(), l.Staged(0)
	stages(t, "DOC 3", l, 0, 3, 3)
	commits(t, "DOC 3", l, 0, 3)
	stages(t, "DOC 3", l, 0, 4, 4)
	if !slices.Equal(first, recs(1, 2)) || !slices.Equal(numbers, []uint64{2}) {
		t.Errorf("DOC 3: what was answered is %v, %v", first, numbers)
	}
	all(t, "DOC 3", l, 1, 2, 2, 3)
	look(sink.New()).same(t, "DOC 8: another log", other)
}

// TestMany: of very many transactions each call is soon at an end.
func TestMany(t *testing.T) {
	const many = 1 << 17
	l := sink.New()
	fill := func(from uint64) {
		for n := range uint64(many) {
			stages(t, "P17.1: many", l, 0, from+2*n, int64(n))
		}
	}
	fill(2)
	for n := range uint64(many) { // one by one from above, but the last one
		if l.Commit(0, 2*n+3) != api.ErrSinkNone {
			t.Fatal("P17.1: many: there is no odd one")
		}
		l.Abort(0, max(2, 2*(many-n)-1))
	}
	stands(t, "P17.1: many", l, 0, 0, 2)
	fill(4)
	for n := range uint64(many) { // one by one from below
		commits(t, "P17.1: many", l, 0, 2*n+2)
		commits(t, "P17.1: many", l, 0, 2*n+1)
		l.Abort(0, most)
	}
	commits(t, "P17.1: many", l, 0, 2*many+2)
	for n := range uint64(many) { // one aborted and staged again, above many
		l.Stage(1, n+1, nil)
		l.Abort(1, n)
		l.Stage(1, n+1, nil)
	}
	stands(t, "P17.1: many", l, 0, 2*many+2)
	if got := l.All(); len(got) != many+1 || !slices.Equal(got, l.Upto(0, most)) || got[many] != recs(many - 1)[0] {
		t.Errorf("P17.2: many: %d records", len(got))
	}
	if got := l.Staged(1); len(got) != many || got[many-1] != many {
		t.Errorf("P17.2: many: %d staged", len(got))
	}
}

// TestKept: nothing is kept of what is gone, of what was refused, of transactions without records, of Commits that are told again.
func TestKept(t *testing.T) {
	const many = 1 << 17
	l, list := sink.New(), make([]api.Record, 8)
	before := inUse()
	holds := func(what string, bound int64) {
		t.Helper()
		if grown := inUse() - before; grown > bound {
			t.Errorf("LANGUAGE 8: %s: %d bytes are kept", what, grown)
		}
	}
	fill := func(list []api.Record) {
		from := l.Last(0) + 2
		for n := range uint64(many) {
			l.Stage(0, from+n, list)
		}
	}
	stages(t, "LANGUAGE 8", l, 0, 1)
	fill(list)
	l.Abort(0, 1)
	stands(t, "LANGUAGE 8", l, 0, 0, 1)
	holds("all but one are gone", 1<<20)
	fill(list)
	l.Abort(0, 0)
	holds("all are gone", 1<<20)
	for n := range uint64(many) {
		l.Stage(0, n+1, nil)
		l.Commit(0, n+1)
		l.Stage(0, n+1, list)
		l.Commit(0, n+2)
		l.Commit(0, n)
	}
	holds("without records, one by one", 1<<20)
	fill(nil)
	commits(t, "LANGUAGE 8", l, 0, l.Staged(0)[many-2])
	holds("without records, all but one at once", 1<<20)
	fill(nil)
	top := slices.Max(l.Staged(0))
	for n := range uint64(many / 2) {
		l.Stage(0, top+n+1, list)
	}
	l.Abort(0, top)
	holds("the lesser part is gone", many*100)
	l.Abort(0, 0)
	for part := range many {
		l.Stage(part+2, 1, list)
		l.Abort(part+2, 0)
		l.Commit(part+2, 1)
		l.Commit(part+2, 0)
	}
	holds("parts of which all is gone", 1<<20)
	l.Stage(1, 1, make([]api.Record, 1<<17)[:0])
	holds("the room behind none", 1<<20)
	all(t, "LANGUAGE 8", l)
}
