package state

import "leat/api"

const (
	countSize  = 4
	numberSize = 8
	paneSize   = 4 * numberSize
)

// written: how many panes, and each one's numbers.
func written(panes []api.Pane) []byte {
	b := make([]byte, 0, countSize+paneSize*len(panes))
	b = number(b, uint64(len(panes)), countSize)
	for _, p := range panes {
		for _, n := range [4]int64{p.Key, p.Span.From, p.Span.To, p.Acc} {
			b = number(b, uint64(n), numberSize)
		}
	}
	return b
}

// number: b with a number of so many bytes behind it, the highest first.
func number(b []byte, n uint64, size int) []byte {
	for i := size - 1; i >= 0; i-- {
		b = append(b, byte(n>>(8*i)))
	}
	return b
}

// read: the panes, if there are just as many bytes as their count asks for.
func read(b []byte) ([]api.Pane, bool) {
	if len(b) < countSize {
		return nil, false
	}
	count, rest := numberOf(b[:countSize]), b[countSize:]
	if uint64(len(rest)) != count*paneSize {
		return nil, false
	}
	panes := make([]api.Pane, count)
	for i := range panes {
		panes[i] = paneOf(rest[i*paneSize:])
	}
	return panes, true
}

func paneOf(b []byte) api.Pane {
	var n [4]int64
	for i := range n {
		n[i] = int64(numberOf(b[i*numberSize : (i+1)*numberSize]))
	}
	return api.Pane{Key: n[0], Span: api.Span{From: n[1], To: n[2]}, Acc: n[3]}
}

func numberOf(b []byte) uint64 {
	var n uint64
	for _, x := range b {
		n = n<<8 | uint64(x)
	}
	return n
}
