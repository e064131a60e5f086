package codec

import "leat/api"

// reader takes bytes off the front of rest. Once something is wrong it stays so, and what is read from then on is of no account: it is enough to ask at the end.
type reader struct {
	rest []byte
	bad  bool
}

// take answers the next size bytes; they are the reader's own, not to be handed out.
func (r *reader) take(size int) []byte {
	if len(r.rest) < size {
		r.bad = true
		return nil
	}
	taken := r.rest[:size]
	r.rest = r.rest[size:]
	return taken
}

func (r *reader) number(size int) uint64 {
	n := uint64(0)
	for _, c := range r.take(size) {
		n = n<<8 | uint64(c)
	}
	return n
}

// readAll reads by read, and refuses bytes of which something is left over.
func readAll[T any](b []byte, read func(*reader) T) (T, api.Errno) {
	r := reader{rest: b}
	x := read(&r)
	if r.bad || len(r.rest) > 0 {
		var none T
		return none, api.ErrCodecForm
	}
	return x, api.OK
}

// readList reads what writeList wrote, of at most most.
func readList[T any](r *reader, most int, read func(*reader) T) []T {
	n := int(r.number(2))
	if n > most {
		r.bad = true
	}
	var list []T
	for i := 0; i < n && !r.bad; i++ {
		list = append(list, read(r))
	}
	return list
}

func readSigned(r *reader) int64 {
	return int64(r.number(8))
}

func readFrame(r *reader) api.Frame {
	f := api.Frame{Kind: int(r.number(1))}
	switch f.Kind {
	case api.FrameRecord:
		f.Rec.Key = readSigned(r)
		f.Rec.Time = readSigned(r)
		f.Rec.Val = readSigned(r)
	case api.FrameMark:
		f.Mark = readSigned(r)
	case api.FrameBarrier:
		f.N = r.number(8)
		f.Over = readFlag(r)
	default:
		r.bad = true
	}
	return f
}

func readFlag(r *reader) bool {
	n := r.number(1)
	if n > 1 {
		r.bad = true
	}
	return n == 1
}

func readControl(r *reader) api.Control {
	var c api.Control
	c.Kind = int(r.number(1))
	c.Epoch = r.number(8)
	c.N = r.number(8)
	c.Task = int(r.number(2))
	if !controlKind(c.Kind) {
		r.bad = true
	}
	return c
}

func readSnap(r *reader) api.Snap {
	var s api.Snap
	s.Task = int(r.number(2))
	s.Offset = int(r.number(2))
	s.Mark = readSigned(r)
	s.Marks = readList(r, maxShort, readSigned)
	s.Panes = readList(r, api.MaxPieces, readPane)
	s.Captured = readList(r, api.MaxPieces, readOut)
	return s
}

func readPane(r *reader) api.Pane {
	var p api.Pane
	p.Key = readSigned(r)
	p.Span.From = readSigned(r)
	p.Span.To = readSigned(r)
	p.Acc = readSigned(r)
	return p
}

func readOut(r *reader) api.Out {
	var o api.Out
	o.Channel = int(r.number(2))
	o.F = readFrame(r)
	return o
}

func readManifest(r *reader) api.Manifest {
	var m api.Manifest
	m.N = r.number(8)
	m.Epoch = r.number(8)
	m.Files = readList(r, maxShort, readName)
	return m
}

func readName(r *reader) string {
	size := int(r.number(1))
	if size > api.MaxName {
		r.bad = true
	}
	return string(r.take(size))
}
