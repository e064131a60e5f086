package script_test

import (
	"math"
	"math/rand"
	"slices"
	"testing"

	"leat/api"
	"leat/script"
)

func TestExample(t *testing.T) {
	same(t, "example", script.Events([]byte{13, 2, 7}), []api.Event{ev(3, 2, 7)})
}

// TestReadme: what README.md tells of a script.
func TestReadme(t *testing.T) {
	j := api.Job{Nodes: []api.Node{
		{Kind: api.NodeSource, Par: 1},
		{Kind: api.NodeWindow, In: []int{0}, Par: 2, Agg: api.AggSum, Win: api.Window{Kind: api.WinTumbling, Size: 10}},
		{Kind: api.NodeSink, In: []int{1}, Par: 1},
	}}
	l := api.Logs{{{
		{Kind: api.ItemRecord, Rec: api.Record{Key: 1, Time: 5, Val: 2}},
		{Kind: api.ItemRecord, Rec: api.Record{Key: 1, Time: 7, Val: 3}},
		{Kind: api.ItemMark, Mark: api.MaxMark},
	}}, nil, nil}
	text := script.Job(j)
	b := script.Bytes([]api.Event{{Kind: api.EvTick}, {Kind: api.EvCrashTask, A: 1}})
	life := script.Play(j, l, api.Settings{Credits: 4, Interval: 5, Timeout: 20}, b)
	is(t, "README", text, "0 source par 1\n1 window in 0 par 2 sum tumbling 10\n2 sink in 1 par 1\n")
	same(t, "README", b, []byte{4, 0, 0, 5, 1, 0})
	is(t, "README", life, "finished\nsink 2 (1 9 5)\n")
}

func TestEvents(t *testing.T) {
	for _, w := range []struct {
		b []byte
		l []api.Event
	}{
		{nil, nil},
		{[]byte{}, nil},
		{[]byte{1}, nil},
		{[]byte{1, 2}, nil},
		{[]byte{1, 2, 3}, []api.Event{ev(1, 2, 3)}},
		{[]byte{1, 2, 3, 4}, []api.Event{ev(1, 2, 3)}},
		{[]byte{1, 2, 3, 4, 5}, []api.Event{ev(1, 2, 3)}},
		{[]byte{1, 2, 3, 4, 5, 6}, []api.Event{ev(1, 2, 3), ev(4, 5, 6)}},
		{[]byte{9, 255, 0, 10, 0, 255, 255, 10, 19}, []api.Event{ev(9, 255, 0), ev(0, 0, 255), ev(5, 10, 19)}},
	} {
		same(t, "P20.1: Events", script.Events(w.b), w.l)
	}
	for n := range 256 {
		same(t, "P20.1: Events", script.Events([]byte{byte(n), byte(n), byte(255 - n)}), []api.Event{ev(n%10, n, 255-n)})
	}
}

func TestBytes(t *testing.T) {
	same(t, "P20.1: Bytes", script.Bytes(nil), nil)
	same(t, "P20.1: Bytes", script.Bytes([]api.Event{}), nil)
	for _, w := range []struct {
		n int
		b byte
	}{
		{0, 0}, {9, 9}, {10, 10}, {255, 255}, {256, 0}, {257, 1}, {300, 44}, {511, 255},
		{-1, 255}, {-2, 254}, {-255, 1}, {-256, 0}, {-257, 255},
		{math.MaxInt, 255}, {math.MinInt, 0}, {math.MinInt + 5, 5}, {math.MaxInt32 + 1, 0},
	} {
		same(t, "P20.1: Bytes", script.Bytes([]api.Event{ev(w.n, 1, 2), ev(3, w.n, 4), ev(5, 6, w.n)}), []byte{w.b, 1, 2, 3, w.b, 4, 5, 6, w.b})
	}
}

// TestBack: bytes of events are those events.
func TestBack(t *testing.T) {
	var all []api.Event
	for kind := range 10 {
		for n := range 256 {
			all = append(all, ev(kind, n, 255-n), ev(kind, 0, n), ev(kind, n, n))
		}
	}
	same(t, "P20.4", script.Events(script.Bytes(all)), all)
	r := rand.New(rand.NewSource(1))
	for range 200 {
		var l []api.Event
		for range r.Intn(30) {
			l = append(l, ev(r.Intn(10), r.Intn(256), r.Intn(256)))
		}
		same(t, "P20.4", script.Events(script.Bytes(l)), l)
	}
}

// TestLeftAlone: what is handed in stays, its spare room, too; what is answered is new.
func TestLeftAlone(t *testing.T) {
	b := []byte{1, 2, 3, 4, 5, 6, 7, 8, 9}
	l := script.Events(b[:6])
	same(t, "DOC 3", b, []byte{1, 2, 3, 4, 5, 6, 7, 8, 9})
	clear(b)
	same(t, "DOC 3", l, []api.Event{ev(1, 2, 3), ev(4, 5, 6)})
	m := append(slices.Clone(l), ev(7, 8, 9))
	out := script.Bytes(m[:2])
	other := script.Bytes(m[:2])
	same(t, "DOC 3", m, []api.Event{ev(1, 2, 3), ev(4, 5, 6), ev(7, 8, 9)})
	clear(m)
	clear(other)
	same(t, "DOC 3", out, []byte{1, 2, 3, 4, 5, 6})
}

// TestMany: long lists.
func TestMany(t *testing.T) {
	b := make([]byte, 3<<21)
	for i := range b {
		b[i] = byte(i*i) % 10
	}
	l := script.Events(b)
	is(t, "P20.1: many", len(l), 1<<21)
	if got := script.Bytes(l); !slices.Equal(got, b) {
		t.Error("P20.4: many")
	}
}
