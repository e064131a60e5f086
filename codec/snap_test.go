package codec_test

import (
	"math"
	"strings"
	"testing"

	"leat/api"
	"leat/codec"
)

// emptySnap: the bytes of a part that has nothing.
const emptySnap = "0000 0000 0000000000000000 0000 0000 0000"

func TestSnaps(t *testing.T) {
	for _, x := range []struct {
		s    api.Snap
		want string
	}{
		{api.Snap{}, emptySnap},
		{api.Snap{Task: 3, Offset: 258, Mark: -5}, "0003 0102 fffffffffffffffb 0000 0000 0000"},
		{api.Snap{Task: 65535, Offset: 65535, Mark: api.MinMark}, "ffff ffff 8000000000000000 0000 0000 0000"},
		{api.Snap{Marks: []int64{1, api.MaxMark, -1}}, "0000 0000 0000000000000000 0003 0000000000000001 7fffffffffffffff ffffffffffffffff 0000 0000"},
		{
			api.Snap{Panes: []api.Pane{{Key: 1, Span: api.Span{From: -2, To: 3}, Acc: 4}, {Key: -1, Span: api.Span{From: math.MinInt64, To: math.MaxInt64}, Acc: 5}}},
			"0000 0000 0000000000000000 0000 0002" +
				"0000000000000001 fffffffffffffffe 0000000000000003 0000000000000004" +
				"ffffffffffffffff 8000000000000000 7fffffffffffffff 0000000000000005 0000",
		},
		{
			api.Snap{Captured: []api.Out{
				{Channel: 9, F: api.Frame{Kind: api.FrameMark, Mark: 1}},
				{Channel: 65535, F: api.Frame{Kind: api.FrameRecord, Rec: api.Record{Key: 1, Time: 2, Val: 3}}},
				{Channel: 0, F: api.Frame{Kind: api.FrameBarrier, N: 4, Over: true}},
			}},
			"0000 0000 0000000000000000 0000 0000 0003" +
				"0009 02 0000000000000001" +
				"ffff 01 0000000000000001 0000000000000002 0000000000000003" +
				"0000 03 0000000000000004 01",
		},
		{
			api.Snap{Task: 1, Offset: 2, Mark: 3, Marks: []int64{4}, Panes: []api.Pane{{Key: 5, Span: api.Span{From: 6, To: 7}, Acc: 8}}, Captured: []api.Out{{Channel: 9, F: api.Frame{Kind: api.FrameBarrier, N: 10}}}},
			"0001 0002 0000000000000003 0001 0000000000000004" +
				"0001 0000000000000005 0000000000000006 0000000000000007 0000000000000008" +
				"0001 0009 03 000000000000000a 00",
		},
	} {
		want := unhex(t, x.want)
		snaps().both(t, x.s, want)
		snaps().cutOrLonger(t, want)
	}
}

func TestSnapsOfEmptyLists(t *testing.T) {
	s := api.Snap{Marks: []int64{}, Panes: []api.Pane{}, Captured: []api.Out{}}
	if b, e := codec.Snap(s); e != api.OK || string(b) != string(unhex(t, emptySnap)) {
		t.Errorf("P1.4: empty lists: %x, %v", b, e)
	}
}

func manyOuts(n int) []api.Out {
	outs := make([]api.Out, n)
	for i := range outs {
		outs[i] = api.Out{Channel: i, F: api.Frame{Kind: api.FrameMark, Mark: int64(i)}}
	}
	return outs
}

func TestSnapsThatAreTooLarge(t *testing.T) {
	unfit := api.Out{Channel: -1}
	for _, more := range []int{1, 2, 1 << 16} {
		snaps().refused(t, api.Snap{Panes: make([]api.Pane, api.MaxPieces+more)}, api.ErrCodecBig)
		snaps().refused(t, api.Snap{Captured: manyOuts(api.MaxPieces + more)}, api.ErrCodecBig)
		snaps().refused(t, api.Snap{Marks: make([]int64, 65535+more)}, api.ErrCodecBig)
	}
	for _, s := range []api.Snap{
		{Task: -1, Panes: make([]api.Pane, api.MaxPieces+1)},
		{Offset: 65536, Marks: make([]int64, 65536)},
		{Captured: make([]api.Out, api.MaxPieces+1)},
		{Captured: []api.Out{unfit}, Marks: make([]int64, 65536)},
	} {
		snaps().refused(t, s, api.ErrCodecBig)
	}
}

func TestSnapsAtTheirLimits(t *testing.T) {
	for _, s := range []api.Snap{
		{Panes: make([]api.Pane, api.MaxPieces)},
		{Captured: manyOuts(api.MaxPieces)},
		{Marks: make([]int64, 65535)},
		{Task: 65535, Offset: 65535, Panes: make([]api.Pane, api.MaxPieces), Captured: manyOuts(api.MaxPieces), Marks: make([]int64, 65535)},
	} {
		b, e := codec.Snap(s)
		if want := 18 + 8*len(s.Marks) + 32*len(s.Panes) + 11*len(s.Captured); e != api.OK || len(b) != want {
			t.Fatalf("P1.4: at the limit: %d bytes, wanted %d, %v", len(b), want, e)
		}
		snaps().both(t, s, b)
	}
}

func TestSnapsOfWrongNumbers(t *testing.T) {
	for _, n := range []int{-1, 65536, math.MinInt, math.MaxInt} {
		snaps().refused(t, api.Snap{Task: n}, api.ErrCodecForm)
		snaps().refused(t, api.Snap{Offset: n}, api.ErrCodecForm)
		good := api.Out{Channel: 1, F: api.Frame{Kind: api.FrameMark}}
		snaps().refused(t, api.Snap{Captured: []api.Out{{Channel: n, F: good.F}}}, api.ErrCodecForm)
		snaps().refused(t, api.Snap{Captured: []api.Out{good, {Channel: n, F: good.F}, good}}, api.ErrCodecForm)
	}
	for _, f := range []api.Frame{{}, {Kind: 4}, {Kind: 257}, {Kind: api.FrameRecord, Mark: 1}, {Kind: api.FrameMark, Over: true}, {Kind: api.FrameBarrier, Rec: api.Record{Time: 1}}} {
		snaps().refused(t, api.Snap{Captured: []api.Out{{F: f}}}, api.ErrCodecForm)
	}
}

func TestBytesThatAreNoSnap(t *testing.T) {
	ahead := strings.Repeat("00", 12)
	for _, text := range []string{
		"",
		ahead,
		ahead + "0000 0000 0001",
		ahead + "0000 0000 0001 0000 00",
		ahead + "0000 0000 0001 0000 04 0000000000000000",
		ahead + "0000 0000 0001 0000 03 0000000000000000 02",
		ahead + "0000 0000 0002 0000 02 0000000000000000",
		ahead + "0000 0000 0000 0000 02 0000000000000000",
		ahead + "0001 0000 0000",
		ahead + "0000 0001 0000",
		ahead + "ffff ffff ffff",
	} {
		snaps().unread(t, unhex(t, text))
	}
}

// Bytes that are whole but for one piece more than Snap would write.
func TestBytesOfTooLargeSnaps(t *testing.T) {
	b := unhex(t, strings.Repeat("00", 12)+"0000 1001")
	b = append(b, make([]byte, 32*(api.MaxPieces+1)+2)...)
	snaps().unread(t, b)
	b = unhex(t, strings.Repeat("00", 12)+"0000 0000 1001")
	for range api.MaxPieces + 1 {
		b = append(b, unhex(t, "0000 02 0000000000000000")...)
	}
	snaps().unread(t, b)
}
