package state_test

import (
	"bytes"
	"encoding/hex"
	"math"
	"slices"
	"strings"
	"testing"

	"leat/agg"
	"leat/api"
	"leat/plan"
	"leat/state"
)

// aggs: all of api's.
var aggs = []int{api.AggSum, api.AggCount, api.AggMin, api.AggMax, api.AggXor}

// reduce: what New takes for one.
var reduce = api.Window{}

func tumbling(size int64) api.Window { return api.Window{Kind: api.WinTumbling, Size: size} }

func sliding(size, slide int64) api.Window {
	return api.Window{Kind: api.WinSliding, Size: size, Slide: slide}
}

func session(size int64) api.Window { return api.Window{Kind: api.WinSession, Size: size} }

func pane(key, from, to, acc int64) api.Pane {
	return api.Pane{Key: key, Span: api.Span{From: from, To: to}, Acc: acc}
}

// reduced: a reduce's pane.
func reduced(key, acc int64) api.Pane { return pane(key, math.MinInt64, 1<<41+1, acc) }

func record(key, time, val int64) api.Record { return api.Record{Key: key, Time: time, Val: val} }

func filled(w api.Window, aggr int, recs ...api.Record) *state.State {
	s := state.New(w, aggr)
	for _, r := range recs {
		s.Put(r)
	}
	return s
}

func loaded(w api.Window, aggr int, panes ...api.Pane) *state.State {
	s := state.New(w, aggr)
	s.Load(panes)
	return s
}

func same[T comparable](t *testing.T, what string, got []T, want ...T) {
	t.Helper()
	if !slices.Equal(got, want) {
		t.Errorf("%s: %v, wanted %v", what, got, want)
	}
}

func isNext(t *testing.T, what string, s *state.State, want int64, there bool) {
	t.Helper()
	if n, ok := s.Next(); n != want || ok != there {
		t.Errorf("%s: Next %d, %v, wanted %d, %v", what, n, ok, want, there)
	}
}

// bytesOf: out of texts of digits by sixteen, spaces among them.
func bytesOf(texts ...string) []byte {
	b, err := hex.DecodeString(strings.ReplaceAll(strings.Join(texts, ""), " ", ""))
	if err != nil {
		panic(err)
	}
	return b
}

func TestExample(t *testing.T) {
	s := state.New(tumbling(10), api.AggSum)
	s.Put(record(1, 3, 5))
	s.Put(record(1, 7, 2))
	same(t, "P12.1: Panes", s.Panes(), pane(1, 0, 10, 7))
	isNext(t, "P12.1", s, 9, true)
	same(t, "P12.1: Fire(9)", s.Fire(9), record(1, 9, 7))
	same(t, "P12.1: left", s.Panes())
}

func TestNone(t *testing.T) {
	for _, w := range []api.Window{reduce, tumbling(10), sliding(10, 4), session(10)} {
		s := state.New(w, api.AggSum)
		isNext(t, "P12.1: of none", s, 0, false)
		same(t, "P12.1: Fire of none", s.Fire(api.MaxMark))
		same(t, "P12.1: Panes of none", s.Panes())
		same(t, "P12.2: Bytes of none", s.Bytes(), 0, 0, 0, 0)
		for g := range api.Groups {
			same(t, "P12.1: Group of none", s.Group(g))
		}
		if s.Len() != 0 {
			t.Errorf("P12.1: Len of none: %d", s.Len())
		}
	}
}

// TestAggs: of each aggregate the values -2, 7, 7 in one pane.
func TestAggs(t *testing.T) {
	for i, want := range []int64{12, 3, -2, 7, -2} {
		for _, w := range []api.Window{tumbling(100), sliding(100, 100), session(100), reduce} {
			s := filled(w, aggs[i], record(1, 0, -2), record(1, 1, 7), record(1, 0, 7))
			if got := s.Panes(); len(got) != 1 || got[0].Acc != want {
				t.Errorf("P12.1: aggregate %d of %v: %v, wanted %d", aggs[i], w, got, want)
			}
		}
	}
}

func TestPut(t *testing.T) {
	s := filled(sliding(10, 4), api.AggSum, record(2, 9, 1), record(1, 9, 2), record(2, 12, 4))
	same(t, "P12.1: sliding", s.Panes(),
		pane(1, 0, 10, 2), pane(1, 4, 14, 2), pane(1, 8, 18, 2),
		pane(2, 0, 10, 1), pane(2, 4, 14, 5), pane(2, 8, 18, 5), pane(2, 12, 22, 4))
	if s.Len() != 7 {
		t.Errorf("P12.1: Len %d, wanted 7", s.Len())
	}
	same(t, "P12.1: a slide leaves it out", filled(sliding(2, 5), api.AggSum, record(1, 2, 1)).Panes())
	same(t, "P12.1: below 0", filled(tumbling(10), api.AggSum, record(-1, -1, 1)).Panes(), pane(-1, -10, 0, 1))
	many := filled(sliding(api.MaxWeight, 1), api.AggCount, record(1, 0, 0))
	if many.Len() != api.MaxWeight {
		t.Errorf("P12.1: %d panes, wanted %d", many.Len(), api.MaxWeight)
	}
}

func TestSessions(t *testing.T) {
	for _, x := range []struct {
		times []int64
		want  []api.Pane
	}{
		{[]int64{0, 4}, []api.Pane{pane(1, 0, 9, 2)}},
		{[]int64{4, 0}, []api.Pane{pane(1, 0, 9, 2)}},
		{[]int64{0, 5}, []api.Pane{pane(1, 0, 5, 1), pane(1, 5, 10, 1)}},
		{[]int64{5, 0}, []api.Pane{pane(1, 0, 5, 1), pane(1, 5, 10, 1)}},
		{[]int64{3, 3}, []api.Pane{pane(1, 3, 8, 2)}},
		{[]int64{0, 8, 4}, []api.Pane{pane(1, 0, 13, 3)}},
		{[]int64{0, 6, 3}, []api.Pane{pane(1, 0, 11, 3)}},
		{[]int64{0, 9, 18, 13, 5}, []api.Pane{pane(1, 0, 5, 1), pane(1, 5, 18, 3), pane(1, 18, 23, 1)}},
		{[]int64{0, 20, 10}, []api.Pane{pane(1, 0, 5, 1), pane(1, 10, 15, 1), pane(1, 20, 25, 1)}},
		{[]int64{0, 4, 8, 12, 6}, []api.Pane{pane(1, 0, 17, 5)}},
		{[]int64{-2, 2}, []api.Pane{pane(1, -2, 7, 2)}},
	} {
		s := state.New(session(5), api.AggCount)
		for _, time := range x.times {
			s.Put(record(1, time, 9))
		}
		same(t, "P12.1: sessions", s.Panes(), x.want...)
	}
	apart := filled(session(5), api.AggCount, record(1, 0, 1), record(2, 2, 1), record(-1, 1, 1))
	same(t, "P12.1: sessions of unlike keys", apart.Panes(), pane(-1, 1, 6, 1), pane(1, 0, 5, 1), pane(2, 2, 7, 1))
}

// TestFiredSession: one that has fired is gone: what comes to its times behind that is in another one.
func TestFiredSession(t *testing.T) {
	s := filled(session(5), api.AggCount, record(1, 0, 1), record(1, 10, 1), record(2, 3, 1))
	same(t, "P12.1: none is due", s.Fire(3))
	same(t, "P12.1: one is", s.Fire(4), record(1, 4, 1))
	s.Put(record(1, 2, 1))
	same(t, "P12.1: begun again", s.Panes(), pane(1, 2, 7, 1), pane(1, 10, 15, 1), pane(2, 3, 8, 1))
	s.Put(record(1, 6, 1))
	same(t, "P12.1: one with both", s.Panes(), pane(1, 2, 15, 3), pane(2, 3, 8, 1))
	same(t, "P12.1: all", s.Fire(14), record(1, 14, 3), record(2, 7, 1))
	s.Put(record(1, 12, 1))
	same(t, "P12.1: from nothing", s.Panes(), pane(1, 12, 17, 1))
}

func TestFire(t *testing.T) {
	s := filled(tumbling(10), api.AggSum, record(2, 5, 1), record(1, 15, 2), record(1, 5, 3), record(-3, 25, 4))
	isNext(t, "P12.1", s, 9, true)
	same(t, "P12.1: Fire(8)", s.Fire(8))
	same(t, "P12.1: Fire(MinMark)", s.Fire(api.MinMark))
	same(t, "P12.1: Fire(9)", s.Fire(9), record(1, 9, 3), record(2, 9, 1))
	same(t, "P12.1: Fire(9) again", s.Fire(9))
	isNext(t, "P12.1: fired panes are gone", s, 19, true)
	same(t, "P12.1: left", s.Panes(), pane(-3, 20, 30, 4), pane(1, 10, 20, 2))
	s.Put(record(1, 5, 7))
	same(t, "P12.1: a pane that begins anew", s.Panes(), pane(-3, 20, 30, 4), pane(1, 0, 10, 7), pane(1, 10, 20, 2))
	isNext(t, "P12.1: begun anew", s, 9, true)
	same(t, "P12.1: by key, not by time", s.Fire(api.MaxMark), record(-3, 29, 4), record(1, 9, 7), record(1, 19, 2))
	isNext(t, "P12.1: all fired", s, 0, false)
	if s.Len() != 0 {
		t.Errorf("P12.1: Len %d, wanted 0", s.Len())
	}
}

func TestReduce(t *testing.T) {
	far := int64(1) << 50
	s := filled(reduce, api.AggMax, record(4, -far, 7), record(4, far, -7), record(-4, api.EndTime, 2), record(4, 0, 8))
	same(t, "P12.1: a reduce's panes", s.Panes(), reduced(-4, 2), reduced(4, 8))
	isNext(t, "P12.1: a reduce", s, 1<<41, true)
	for _, mark := range []int64{api.MinMark, -1, 0, api.EndTime - 1, api.EndTime, api.EndTime + 1, api.MaxMark - 1} {
		same(t, "P12.1: a reduce fires by MaxMark alone", s.Fire(mark))
	}
	if s.Len() != 2 {
		t.Errorf("P12.1: Len %d, wanted 2", s.Len())
	}
	same(t, "P12.1: a reduce's end", s.Fire(api.MaxMark), record(-4, 1<<41, 2), record(4, 1<<41, 8))
	same(t, "P12.1: a reduce's end again", s.Fire(api.MaxMark))
	sized := filled(api.Window{Size: 10, Slide: 3}, api.AggSum, record(1, 5, 1), record(1, 50, 1))
	same(t, "P12.1: Kind 0 is a reduce", sized.Panes(), reduced(1, 2))
	strange := loaded(reduce, api.AggSum, pane(1, 0, 10, 5))
	same(t, "P12.1: a reduce's pane of another span", strange.Fire(10))
	same(t, "P12.1: its end", strange.Fire(api.MaxMark), record(1, 1<<41, 5))
}

func TestLoad(t *testing.T) {
	s := filled(tumbling(10), api.AggSum, record(7, 5, 1))
	s.Load([]api.Pane{pane(2, 0, 10, 3), pane(1, 10, 20, 5), pane(2, 0, 10, 4), pane(1, 0, 10, 6), pane(2, 0, 5, 1)})
	same(t, "P12.1: loaded", s.Panes(), pane(1, 0, 10, 6), pane(1, 10, 20, 5), pane(2, 0, 5, 1), pane(2, 0, 10, 7))
	s.Put(record(1, 3, 1))
	same(t, "P12.1: gone on with", s.Group(plan.Group(1)), pane(1, 0, 10, 7), pane(1, 10, 20, 5))
	s.Load(nil)
	isNext(t, "P12.1: nothing loaded", s, 0, false)
	s.Load([]api.Pane{reduced(1, 2), reduced(1, 3)})
	same(t, "P12.1: merged", s.Panes(), reduced(1, 5))
	for i, want := range []int64{9, 9, -5, 7, -5} {
		s = loaded(tumbling(2), aggs[i], pane(1, 0, 2, 7), pane(1, 0, 2, -5), pane(1, 0, 2, 7))
		same(t, "P12.1: merged by each aggregate", s.Panes(), pane(1, 0, 2, want))
	}
}

func TestLoadSessions(t *testing.T) {
	for _, x := range []struct{ panes, want []api.Pane }{
		{[]api.Pane{pane(1, 0, 5, 1), pane(1, 5, 9, 2)}, []api.Pane{pane(1, 0, 5, 1), pane(1, 5, 9, 2)}},
		{[]api.Pane{pane(1, 4, 9, 2), pane(1, 0, 5, 1)}, []api.Pane{pane(1, 0, 9, 3)}},
		{[]api.Pane{pane(1, 0, 5, 1), pane(1, 8, 12, 2), pane(1, 4, 9, 4)}, []api.Pane{pane(1, 0, 12, 7)}},
		{[]api.Pane{pane(1, 0, 20, 1), pane(1, 3, 5, 2), pane(1, 19, 22, 4), pane(1, 22, 23, 8)}, []api.Pane{pane(1, 0, 22, 7), pane(1, 22, 23, 8)}},
		{[]api.Pane{pane(1, 0, 5, 1), pane(2, 0, 5, 2), pane(1, 0, 5, 4)}, []api.Pane{pane(1, 0, 5, 5), pane(2, 0, 5, 2)}},
		{[]api.Pane{pane(1, 3, 3, 1), pane(1, 0, 5, 2), pane(1, 3, 3, 4)}, []api.Pane{pane(1, 0, 5, 2), pane(1, 3, 3, 5)}},
	} {
		s := loaded(session(5), api.AggSum, x.panes...)
		same(t, "P12.1: sessions that are loaded", s.Panes(), x.want...)
	}
	s := loaded(session(5), api.AggSum, pane(1, 20, 22, 1), pane(1, 0, 5, 1), pane(1, 10, 12, 1))
	s.Put(record(1, 4, 8))
	same(t, "P12.1: gone on with", s.Panes(), pane(1, 0, 9, 9), pane(1, 10, 12, 1), pane(1, 20, 22, 1))
	s.Put(record(1, 8, 8))
	same(t, "P12.1: gone on with, to two", s.Panes(), pane(1, 0, 13, 18), pane(1, 20, 22, 1))
	s.Load([]api.Pane{pane(1, 5, 6, 1)})
	s.Put(record(1, 0, 1))
	same(t, "P12.1: nothing of what was there ahead of it", s.Panes(), pane(1, 0, 5, 1), pane(1, 5, 6, 1))
}

func TestGroup(t *testing.T) {
	s := filled(tumbling(10), api.AggSum, record(1, 15, 1), record(1, 5, 2), record(2, 5, 3), record(0, 5, 4))
	same(t, "P12.1: Group(9)", s.Group(9), pane(1, 0, 10, 2), pane(1, 10, 20, 1))
	same(t, "P12.1: Group(0)", s.Group(0), pane(0, 0, 10, 4))
	for _, g := range []int{-1, api.Groups, math.MinInt, math.MaxInt} {
		same(t, "P12.1: no such group", s.Group(g))
	}
	if s.Len() != 4 {
		t.Errorf("P12.1: Group changed it: %v", s.Panes())
	}
}

func TestBytes(t *testing.T) {
	s := filled(tumbling(10), api.AggSum, record(-1, -1, -2), record(1<<40, 5, 1))
	want := bytesOf("00000002",
		"ffffffffffffffff fffffffffffffff6 0000000000000000 fffffffffffffffe",
		"0000010000000000 0000000000000000 000000000000000a 0000000000000001")
	same(t, "P12.2: Bytes", s.Bytes(), want...)
	one := filled(reduce, api.AggCount, record(3, 1, 1))
	same(t, "P12.2: a reduce's", one.Bytes(), bytesOf("00000001 0000000000000003 8000000000000000 0000020000000001 0000000000000001")...)
	o, e := state.Open(tumbling(10), api.AggSum, want)
	if e != api.OK {
		t.Fatalf("P12.2: Open: %v", e)
	}
	o.Put(record(-1, -10, 5))
	same(t, "P12.2: opened", o.Panes(), pane(-1, -10, 0, 3), pane(1<<40, 0, 10, 1))
	same(t, "P12.2: another state stays", s.Bytes(), want...)
	many := make([]api.Pane, 300)
	for i := range many {
		many[i] = pane(int64(i), 0, 1, 1)
	}
	same(t, "P12.2: the count", loaded(tumbling(1), api.AggSum, many...).Bytes()[:4], 0, 0, 1, 44)
}

// spelled: panes as Bytes tells them, as they stand.
func spelled(panes ...api.Pane) []byte {
	b := []byte{byte(len(panes) >> 24), byte(len(panes) >> 16), byte(len(panes) >> 8), byte(len(panes))}
	for _, p := range panes {
		for _, n := range []int64{p.Key, p.Span.From, p.Span.To, p.Acc} {
			for shift := 56; shift >= 0; shift -= 8 {
				b = append(b, byte(n>>shift))
			}
		}
	}
	return b
}

func TestOpen(t *testing.T) {
	all := []api.Window{reduce, tumbling(10), sliding(10, 4), session(10)}
	apart := []api.Window{reduce, tumbling(10), sliding(10, 4)}
	for _, x := range []struct {
		what  string
		b     []byte
		among []api.Window
		want  api.Errno
	}{
		{"none", spelled(), all, api.OK},
		{"one", spelled(pane(1, 0, 10, 5)), all, api.OK},
		{"two keys", spelled(pane(1, 0, 10, 5), pane(2, 0, 10, 5)), all, api.OK},
		{"a key below 0", spelled(pane(-1, 0, 10, 5), pane(0, 0, 10, 5)), all, api.OK},
		{"neighbours", spelled(pane(1, 0, 10, 5), pane(1, 10, 20, 4)), all, api.OK},
		{"below 0", spelled(pane(1, -10, 0, 5), pane(1, 0, 10, 4)), all, api.OK},
		{"of a span of its own", spelled(pane(1, 3, 4, 5)), all, api.OK},
		{"nothing", nil, all, api.ErrStateForm},
		{"half a count", []byte{0, 0, 0}, all, api.ErrStateForm},
		{"one more byte", append(spelled(), 0), all, api.ErrStateForm},
		{"one more pane", append(spelled(pane(1, 0, 10, 5)), make([]byte, 32)...), all, api.ErrStateForm},
		{"one less", spelled(pane(1, 0, 10, 5))[:35], all, api.ErrStateForm},
		{"a count without panes", []byte{0, 0, 0, 1}, all, api.ErrStateForm},
		{"a great count", []byte{255, 255, 255, 255}, all, api.ErrStateForm},
		{"a count that would come round", append([]byte{8, 0, 0, 0}, spelled(pane(1, 0, 10, 5))[4:]...), all, api.ErrStateForm},
		{"keys turned", spelled(pane(2, 0, 10, 5), pane(1, 0, 10, 5)), all, api.ErrStateForm},
		{"keys turned, below 0", spelled(pane(0, 0, 10, 5), pane(-1, 0, 10, 5)), all, api.ErrStateForm},
		{"spans turned", spelled(pane(1, 10, 20, 5), pane(1, 0, 10, 5)), all, api.ErrStateForm},
		{"ends turned", spelled(pane(1, 0, 10, 5), pane(1, 0, 9, 5)), all, api.ErrStateForm},
		{"one pane twice", spelled(pane(1, 0, 10, 5), pane(1, 0, 10, 5)), all, api.ErrStateForm},
		{"a span twice", spelled(pane(1, 0, 10, 4), pane(1, 0, 10, 5)), all, api.ErrStateForm},
		{"a span without times, twice", spelled(pane(1, 9, 9, 4), pane(1, 9, 9, 5)), all, api.ErrStateForm},
		{"overlapping", spelled(pane(1, 0, 10, 4), pane(1, 9, 19, 5)), apart, api.OK},
		{"overlapping", spelled(pane(1, 0, 10, 4), pane(1, 9, 19, 5)), all[3:], api.ErrStateForm},
		{"within", spelled(pane(1, 0, 30, 4), pane(1, 5, 15, 5)), all[3:], api.ErrStateForm},
		{"of one beginning", spelled(pane(1, 0, 10, 4), pane(1, 0, 15, 5)), all[3:], api.ErrStateForm},
		{"behind a neighbour", spelled(pane(1, 0, 30, 4), pane(1, 30, 31, 1), pane(1, 30, 32, 5)), all[3:], api.ErrStateForm},
		{"overlapping of unlike keys", spelled(pane(1, 0, 10, 4), pane(2, 9, 19, 5)), all, api.OK},
	} {
		for _, w := range x.among {
			s, e := state.Open(w, api.AggSum, x.b)
			if e != x.want || (s == nil) != (e != api.OK) {
				t.Errorf("P12.2: Open of %s, %v: %v, %v, wanted %v", x.what, w, s, e, x.want)
			}
			if e == api.OK && !bytes.Equal(s.Bytes(), x.b) {
				t.Errorf("P12.2: Open of %s, %v: %v, wanted %v", x.what, w, s.Bytes(), x.b)
			}
		}
	}
}

func TestSplit(t *testing.T) {
	l := []api.Pane{pane(1, 10, 20, 1), pane(2, 0, 10, 2), pane(0, 0, 10, 3), pane(1, 0, 10, 4), pane(1, 0, 10, 4), pane(1, 0, 10, 3)}
	one := []api.Pane{pane(0, 0, 10, 3), pane(1, 0, 10, 3), pane(1, 0, 10, 4), pane(1, 0, 10, 4), pane(1, 10, 20, 1), pane(2, 0, 10, 2)}
	for par, want := range [][][]api.Pane{
		{},
		{one},
		{{one[0], one[5]}, one[1:5]}, // the groups of 0, 1, 2 are 0, 9, 3
		{{one[0], one[5]}, one[1:5], {}},
		{{one[0], one[5]}, {}, one[1:5], {}},
		{},
	} {
		got := state.Split(l, par)
		if !slices.EqualFunc(got, want, slices.Equal) {
			t.Errorf("P12.2: Split by %d: %v, wanted %v", par, got, want)
		}
	}
	for _, par := range []int{math.MinInt, -1, 0, api.MaxPar + 1, math.MaxInt} {
		if got := state.Split(l, par); len(got) != 0 {
			t.Errorf("P12.2: Split by %d: %v", par, got)
		}
	}
	if got := state.Split(nil, 4); len(got) != 4 {
		t.Errorf("P12.2: Split of none: %v", got)
	}
}

// TestAddMerge: that a value added is its own acc merged, on which Put leans, whatever the numbers.
func TestAddMerge(t *testing.T) {
	for _, aggr := range aggs {
		for _, acc := range strange {
			for _, val := range strange {
				s := loaded(tumbling(10), aggr, pane(1, 0, 10, acc))
				s.Put(record(1, 0, val))
				same(t, "P12.1: one more", s.Panes(), pane(1, 0, 10, agg.Add(aggr, acc, val)))
			}
		}
	}
}

func TestReadme(t *testing.T) {
	w := api.Window{Kind: api.WinTumbling, Size: 10}
	s := state.New(w, api.AggSum)
	s.Put(api.Record{Key: 1, Time: 3, Val: 5})
	s.Put(api.Record{Key: 2, Time: 14, Val: 1})
	s.Put(api.Record{Key: 1, Time: 7, Val: 2})
	isNext(t, "P12.1", s, 9, true)
	same(t, "P12.1: Fire", s.Fire(9), record(1, 9, 7))
	s, e := state.Open(w, api.AggSum, s.Bytes())
	if e != api.OK {
		t.Fatalf("P12.2: Open: %v", e)
	}
	parts := state.Split(s.Panes(), 2)
	part := state.New(w, api.AggSum)
	part.Load(parts[0])
	same(t, "P12.2: key 2 is the first part's", part.Panes(), pane(2, 10, 20, 1))
	same(t, "P12.2: the second part", parts[1])
}
