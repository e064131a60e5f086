package codec_test

import (
	"bytes"
	"math/rand"
	"reflect"
	"slices"
	"strings"
	"testing"

	"leat/api"
	"leat/codec"
)

// again: whatever b is, either it is refused and nothing stands beside the error, or what is read is written with the same bytes. It tells whether b was read.
func (s spelling[T]) again(t *testing.T, b []byte) bool {
	t.Helper()
	kept := bytes.Clone(b)
	x, e := s.read(b)
	if !bytes.Equal(b, kept) {
		t.Fatalf("%s: reading has changed %x", s.promise, kept)
	}
	if e != api.OK {
		s.unread(t, b)
		return false
	}
	if got, e := s.write(x); e != api.OK || !bytes.Equal(got, b) {
		t.Errorf("P1.7: %x is read as %v, and that is written as %x, %v", b, x, got, e)
	}
	return true
}

// mutated: b with a few bytes set, cut out or put in.
func mutated(rnd *rand.Rand, b []byte) []byte {
	b = bytes.Clone(b)
	for range 1 + rnd.Intn(3) {
		at := rnd.Intn(len(b) + 1)
		switch rnd.Intn(4) {
		case 0:
			b = slices.Insert(b, at, byte(rnd.Intn(5)))
		case 1:
			b = slices.Delete(b, at, min(at+1+rnd.Intn(4), len(b)))
		default:
			if at < len(b) {
				b[at] = byte(rnd.Intn(5))
			}
		}
	}
	return b
}

// tryMany: things that make makes come back as they were, and bytes near theirs are refused or come back as they were.
func tryMany[T any](t *testing.T, s spelling[T], rounds int, make func(*rand.Rand) T) {
	t.Helper()
	rnd := rand.New(rand.NewSource(5))
	read, unread := 0, 0
	for range rounds {
		x := make(rnd)
		b, e := s.write(x)
		if got, g := s.read(b); e != api.OK || g != api.OK || !reflect.DeepEqual(got, x) {
			t.Fatalf("P1.7: %v is written as %x, %v, and read as %v, %v", x, b, e, got, g)
		}
		for range 20 {
			if s.again(t, mutated(rnd, b)) {
				read++
			} else {
				unread++
			}
		}
	}
	if read == 0 || unread == 0 {
		t.Errorf("P1.7: of the bytes that were tried %d were read and %d refused: nothing is shown", read, unread)
	}
}

func randomFrame(rnd *rand.Rand) api.Frame {
	n := int64(rnd.Uint64())
	switch rnd.Intn(3) {
	case 0:
		return api.Frame{Kind: api.FrameRecord, Rec: api.Record{Key: n, Time: -n, Val: n >> 32}}
	case 1:
		return api.Frame{Kind: api.FrameMark, Mark: n}
	}
	return api.Frame{Kind: api.FrameBarrier, N: uint64(n), Over: n&1 == 1}
}

func randomControl(rnd *rand.Rand) api.Control {
	return api.Control{Kind: 1 + rnd.Intn(6), Epoch: rnd.Uint64(), N: rnd.Uint64(), Task: rnd.Intn(1 << 16)}
}

func randomSnap(rnd *rand.Rand) api.Snap {
	s := api.Snap{Task: rnd.Intn(1 << 16), Offset: rnd.Intn(1 << 16), Mark: int64(rnd.Uint64())}
	for range rnd.Intn(4) {
		s.Marks = append(s.Marks, int64(rnd.Uint64()))
	}
	for range rnd.Intn(4) {
		s.Panes = append(s.Panes, api.Pane{Key: int64(rnd.Uint64()), Span: api.Span{From: int64(rnd.Uint64()), To: int64(rnd.Uint64())}, Acc: int64(rnd.Uint64())})
	}
	for range rnd.Intn(4) {
		s.Captured = append(s.Captured, api.Out{Channel: rnd.Intn(1 << 16), F: randomFrame(rnd)})
	}
	return s
}

func randomManifest(rnd *rand.Rand) api.Manifest {
	m := api.Manifest{N: rnd.Uint64(), Epoch: rnd.Uint64()}
	for range rnd.Intn(6) {
		m.Files = append(m.Files, string(randomBytes(rnd, rnd.Intn(api.MaxName+1))))
	}
	return m
}

func TestWhatIsWrittenIsReadBack(t *testing.T) {
	tryMany(t, frames(), 500, randomFrame)
	tryMany(t, controls(), 500, randomControl)
	tryMany(t, snaps(), 500, randomSnap)
	tryMany(t, manifests(), 500, randomManifest)
}

// Whatever bytes come, no call panics, and what is read is written again.
func TestAllBytesAreReadOrRefused(t *testing.T) {
	rnd := rand.New(rand.NewSource(6))
	for i := range 4000 {
		b := randomBytes(rnd, i%80)
		for j := range b {
			if rnd.Intn(3) > 0 {
				b[j] = byte(rnd.Intn(4))
			}
		}
		frames().again(t, b)
		controls().again(t, b)
		snaps().again(t, b)
		manifests().again(t, b)
		if in, n, e := codec.Open(b); e == api.OK && !bytes.Equal(codec.Seal(in), b[:n]) {
			t.Errorf("P1.7: %x is opened, but sealed otherwise", b)
		}
	}
}

func TestWritingChangesNothing(t *testing.T) {
	rnd := rand.New(rand.NewSource(7))
	for range 100 {
		s, m := randomSnap(rnd), randomManifest(rnd)
		marks, panes, outs, files := slices.Clone(s.Marks), slices.Clone(s.Panes), slices.Clone(s.Captured), slices.Clone(m.Files)
		codec.Snap(s)
		codec.Manifest(m)
		if !slices.Equal(s.Marks, marks) || !slices.Equal(s.Panes, panes) || !slices.Equal(s.Captured, outs) || !slices.Equal(m.Files, files) {
			t.Fatal("P1.7: what was handed in has changed")
		}
	}
}

// What was read stays as it is when the bytes that it was read from change.
func TestWhatIsReadIsNewMemory(t *testing.T) {
	files := []string{"one", strings.Repeat("n", api.MaxName)}
	b, _ := codec.Manifest(api.Manifest{Files: files})
	m, e := codec.OpenManifest(b)
	clear(b)
	if e != api.OK || !slices.Equal(m.Files, files) {
		t.Errorf("P1.6: names lie in the bytes that were handed in: %q, %v", m.Files, e)
	}
	first, _ := codec.Control(api.Control{Kind: api.CtlAck})
	second, _ := codec.Control(api.Control{Kind: api.CtlAck})
	clear(first)
	if second[0] != api.CtlAck {
		t.Error("P1.3: two answers share memory")
	}
}
