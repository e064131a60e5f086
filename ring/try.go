package ring

// Try: the channel carries pointers, as the language has none of things above 64 kB.
type Try[T any] struct {
	c chan *T
}

// NewTry: see the chapter.
func NewTry[T any](most int) *Try[T] {
	return &Try[T]{c: make(chan *T, within(most))}
}

// Send: see the chapter.
func (t *Try[T]) Send(x T) bool {
	select {
	case t.c <- &x:
		return true
	default:
		return false
	}
}

// Receive: see the chapter.
func (t *Try[T]) Receive() (T, bool) {
	select {
	case x := <-t.c:
		return *x, true
	default:
		var none T
		return none, false
	}
}

// Either: see the chapter. One behind the other: a select over both would choose by chance where both have something.
func (t *Try[T]) Either(o *Try[T]) (T, int) {
	if x, ok := t.Receive(); ok {
		return x, 0
	}
	if x, ok := o.Receive(); ok {
		return x, 1
	}
	var none T
	return none, -1
}
