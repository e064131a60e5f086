package codec

import "leat/api"

// writeNumber writes the lowest size bytes of n behind b, the highest first.
func writeNumber(b []byte, size int, n uint64) []byte {
	for i := size - 1; i >= 0; i-- {
		b = append(b, byte(n>>(8*i)))
	}
	return b
}

// writeSigned writes n as 8 bytes, in two's complement.
func writeSigned(b []byte, n int64) []byte {
	return writeNumber(b, 8, uint64(n))
}

// writeList writes how many there are as 2 bytes, and each of them by write.
func writeList[T any](b []byte, list []T, write func([]byte, T) []byte) []byte {
	b = writeNumber(b, 2, uint64(len(list)))
	for _, x := range list {
		b = write(b, x)
	}
	return b
}

func writeFrame(b []byte, f api.Frame) []byte {
	b = append(b, byte(f.Kind))
	switch f.Kind {
	case api.FrameRecord:
		b = writeSigned(b, f.Rec.Key)
		b = writeSigned(b, f.Rec.Time)
		b = writeSigned(b, f.Rec.Val)
	case api.FrameMark:
		b = writeSigned(b, f.Mark)
	case api.FrameBarrier:
		b = writeNumber(b, 8, f.N)
		b = writeFlag(b, f.Over)
	}
	return b
}

func writeFlag(b []byte, flag bool) []byte {
	if flag {
		return append(b, 1)
	}
	return append(b, 0)
}

func writeControl(b []byte, c api.Control) []byte {
	b = append(b, byte(c.Kind))
	b = writeNumber(b, 8, c.Epoch)
	b = writeNumber(b, 8, c.N)
	return writeNumber(b, 2, uint64(c.Task))
}

func writeSnap(b []byte, s api.Snap) []byte {
	b = writeNumber(b, 2, uint64(s.Task))
	b = writeNumber(b, 2, uint64(s.Offset))
	b = writeSigned(b, s.Mark)
	b = writeList(b, s.Marks, writeSigned)
	b = writeList(b, s.Panes, writePane)
	return writeList(b, s.Captured, writeOut)
}

func writePane(b []byte, p api.Pane) []byte {
	b = writeSigned(b, p.Key)
	b = writeSigned(b, p.Span.From)
	b = writeSigned(b, p.Span.To)
	return writeSigned(b, p.Acc)
}

func writeOut(b []byte, o api.Out) []byte {
	b = writeNumber(b, 2, uint64(o.Channel))
	return writeFrame(b, o.F)
}

func writeManifest(b []byte, m api.Manifest) []byte {
	b = writeNumber(b, 8, m.N)
	b = writeNumber(b, 8, m.Epoch)
	return writeList(b, m.Files, writeName)
}

func writeName(b []byte, name string) []byte {
	b = append(b, byte(len(name)))
	return append(b, name...)
}
