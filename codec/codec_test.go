package codec_test

import (
	"bytes"
	"encoding/hex"
	"math"
	"reflect"
	"strings"
	"testing"

	"leat/api"
	"leat/codec"
)

// unhex reads bytes that are written with spaces between them.
func unhex(t *testing.T, text string) []byte {
	t.Helper()
	b, err := hex.DecodeString(strings.ReplaceAll(text, " ", ""))
	if err != nil {
		t.Fatal(err)
	}
	return b
}

// spelling: how one of the four kinds of things is written and read, and the promise of its writing.
type spelling[T any] struct {
	promise string
	write   func(T) ([]byte, api.Errno)
	read    func([]byte) (T, api.Errno)
}

func frames() spelling[api.Frame] { return spelling[api.Frame]{"P1.2", codec.Frame, codec.OpenFrame} }

func controls() spelling[api.Control] {
	return spelling[api.Control]{"P1.3", codec.Control, codec.OpenControl}
}

func snaps() spelling[api.Snap] { return spelling[api.Snap]{"P1.4", codec.Snap, codec.OpenSnap} }

func manifests() spelling[api.Manifest] {
	return spelling[api.Manifest]{"P1.5", codec.Manifest, codec.OpenManifest}
}

// both: x is written as want, and want is read as x.
func (s spelling[T]) both(t *testing.T, x T, want []byte) {
	t.Helper()
	b, e := s.write(x)
	if e != api.OK || !bytes.Equal(b, want) {
		t.Errorf("%s: %.200v is written as %.100x, %v, wanted %.100x", s.promise, x, b, e, want)
	}
	got, e := s.read(want)
	if e != api.OK || !reflect.DeepEqual(got, x) {
		t.Errorf("P1.6: %.100x is read as %.200v, %v, wanted %.200v", want, got, e, x)
	}
}

// refused: x isn't written, and nothing stands beside the error.
func (s spelling[T]) refused(t *testing.T, x T, want api.Errno) {
	t.Helper()
	if b, e := s.write(x); e != want || len(b) != 0 {
		t.Errorf("%s: %.200v is written as %.100x, %v, wanted %v", s.promise, x, b, e, want)
	}
}

// unread: b isn't read, and nothing stands beside the error.
func (s spelling[T]) unread(t *testing.T, b []byte) {
	t.Helper()
	var none T
	if x, e := s.read(b); e != api.ErrCodecForm || !reflect.DeepEqual(x, none) {
		t.Errorf("P1.6: %.100x is read as %.200v, %v", b, x, e)
	}
}

// cutOrLonger: no beginning of b is read, nor b with a byte behind it.
func (s spelling[T]) cutOrLonger(t *testing.T, b []byte) {
	t.Helper()
	for n := range b {
		s.unread(t, b[:n:n])
		s.unread(t, b[:n])
	}
	s.unread(t, append(bytes.Clone(b), 0))
	s.unread(t, append(bytes.Clone(b), b...))
}

func TestFrames(t *testing.T) {
	for _, x := range []struct {
		f    api.Frame
		want string
	}{
		{api.Frame{Kind: api.FrameRecord}, "01" + strings.Repeat("00", 24)},
		{api.Frame{Kind: api.FrameRecord, Rec: api.Record{Key: 1, Time: 258, Val: -2}}, "01 0000000000000001 0000000000000102 fffffffffffffffe"},
		{api.Frame{Kind: api.FrameRecord, Rec: api.Record{Key: math.MinInt64, Time: math.MaxInt64, Val: 0x0102030405060708}}, "01 8000000000000000 7fffffffffffffff 0102030405060708"},
		{api.Frame{Kind: api.FrameMark, Mark: 5}, "02 0000000000000005"},
		{api.Frame{Kind: api.FrameMark}, "02 0000000000000000"},
		{api.Frame{Kind: api.FrameMark, Mark: api.MinMark}, "02 8000000000000000"},
		{api.Frame{Kind: api.FrameMark, Mark: api.MaxMark}, "02 7fffffffffffffff"},
		{api.Frame{Kind: api.FrameMark, Mark: -1}, "02 ffffffffffffffff"},
		{api.Frame{Kind: api.FrameBarrier}, "03 0000000000000000 00"},
		{api.Frame{Kind: api.FrameBarrier, N: 7, Over: true}, "03 0000000000000007 01"},
		{api.Frame{Kind: api.FrameBarrier, N: math.MaxUint64}, "03 ffffffffffffffff 00"},
	} {
		want := unhex(t, x.want)
		frames().both(t, x.f, want)
		frames().cutOrLonger(t, want)
	}
}

func TestFramesThatAreRefused(t *testing.T) {
	for _, kind := range []int{0, 4, -1, 256, 257, 258, 259, math.MinInt, math.MaxInt} {
		frames().refused(t, api.Frame{Kind: kind}, api.ErrCodecForm)
	}
	record, mark, barrier := api.Frame{Kind: api.FrameRecord}, api.Frame{Kind: api.FrameMark}, api.Frame{Kind: api.FrameBarrier}
	for _, f := range []api.Frame{mark, barrier} {
		for _, rec := range []api.Record{{Key: 1}, {Time: 1}, {Val: 1}} {
			f.Rec = rec
			frames().refused(t, f, api.ErrCodecForm)
		}
	}
	for _, f := range []api.Frame{record, barrier} {
		f.Mark = -1
		frames().refused(t, f, api.ErrCodecForm)
	}
	for _, f := range []api.Frame{record, mark} {
		f.N = 1
		frames().refused(t, f, api.ErrCodecForm)
		f.N, f.Over = 0, true
		frames().refused(t, f, api.ErrCodecForm)
	}
}

func TestBytesThatAreNoFrame(t *testing.T) {
	frames().unread(t, nil)
	for _, text := range []string{
		"00", "01", "04", "ff",
		"00 0000000000000000",
		"04 0000000000000000",
		"ff 0000000000000000 00",
		"00 000000000000000000000000000000000000000000000000",
		"01 0000000000000000",
		"02 0000000000000000 00",
		"03 0000000000000000",
		"03 0000000000000000 02",
		"03 0000000000000000 80",
		"03 0000000000000000 ff",
	} {
		frames().unread(t, unhex(t, text))
	}
}

func TestControls(t *testing.T) {
	for _, x := range []struct {
		c    api.Control
		want string
	}{
		{api.Control{Kind: api.CtlTrigger}, "01 0000000000000000 0000000000000000 0000"},
		{api.Control{Kind: api.CtlAck, Epoch: 1, N: 2, Task: 3}, "02 0000000000000001 0000000000000002 0003"},
		{api.Control{Kind: api.CtlCommit, Epoch: math.MaxUint64, N: 1 << 63, Task: 65535}, "03 ffffffffffffffff 8000000000000000 ffff"},
		{api.Control{Kind: api.CtlDone, Epoch: 1 << 63, N: math.MaxUint64, Task: 256}, "04 8000000000000000 ffffffffffffffff 0100"},
		{api.Control{Kind: api.CtlRestore, Epoch: 0x0102030405060708, Task: 65534}, "05 0102030405060708 0000000000000000 fffe"},
		{api.Control{Kind: api.CtlReady, N: 9}, "06 0000000000000000 0000000000000009 0000"},
	} {
		want := unhex(t, x.want)
		controls().both(t, x.c, want)
		controls().cutOrLonger(t, want)
	}
}

func TestControlsThatAreRefused(t *testing.T) {
	for _, kind := range []int{0, 7, -1, 257, math.MinInt, math.MaxInt} {
		controls().refused(t, api.Control{Kind: kind}, api.ErrCodecForm)
	}
	for _, task := range []int{-1, 65536, math.MinInt, math.MaxInt} {
		controls().refused(t, api.Control{Kind: api.CtlAck, Task: task}, api.ErrCodecForm)
	}
	for _, kind := range []string{"00", "07", "ff"} {
		controls().unread(t, unhex(t, kind+strings.Repeat("00", 18)))
	}
}

func TestManifests(t *testing.T) {
	long := strings.Repeat("n", api.MaxName)
	for _, x := range []struct {
		m    api.Manifest
		want string
	}{
		{api.Manifest{}, "0000000000000000 0000000000000000 0000"},
		{api.Manifest{N: math.MaxUint64, Epoch: 1 << 63}, "ffffffffffffffff 8000000000000000 0000"},
		{api.Manifest{N: 1, Epoch: 2, Files: []string{"ab"}}, "0000000000000001 0000000000000002 0001 02 6162"},
		{api.Manifest{N: 3, Files: []string{"", "\x00\xff", "", "c"}}, "0000000000000003 0000000000000000 0004 00 02 00ff 00 01 63"},
		{api.Manifest{Files: []string{long, long}}, strings.Repeat("00", 16) + "0002" + strings.Repeat("20"+hex.EncodeToString([]byte(long)), 2)},
	} {
		want := unhex(t, x.want)
		manifests().both(t, x.m, want)
		manifests().cutOrLonger(t, want)
	}
	if b, e := codec.Manifest(api.Manifest{Files: []string{}}); e != api.OK || len(b) != 18 {
		t.Errorf("P1.5: an empty list: %x, %v", b, e)
	}
}

func TestManifestsAtTheirLimits(t *testing.T) {
	many := make([]string, 65535)
	manifests().both(t, api.Manifest{Files: many}, append(unhex(t, strings.Repeat("00", 16)+"ffff"), make([]byte, 65535)...))
	manifests().refused(t, api.Manifest{Files: make([]string, 65536)}, api.ErrCodecBig)
	manifests().refused(t, api.Manifest{Files: make([]string, 65537)}, api.ErrCodecBig)
	for _, n := range []int{api.MaxName + 1, 255, 256, 257} {
		name := strings.Repeat("n", n)
		manifests().refused(t, api.Manifest{Files: []string{name}}, api.ErrCodecBig)
		manifests().refused(t, api.Manifest{Files: []string{"a", name}}, api.ErrCodecBig)
	}
	for _, n := range []int{api.MaxName + 1, 255} {
		b := append(make([]byte, 16), 0, 1, byte(n))
		manifests().unread(t, append(b, make([]byte, n)...))
	}
}
