package net

import (
	"slices"

	"leat/ring"
)

const fewThings = 1 << 9

// line: things in order, as many as come. They stand in rings, none of them empty: a ring holds only so many; and as each holds few, one thing comes out of the midst of many without all of them moving.
type line[T any] struct {
	rings []*ring.Ring[T]
	n     int
}

func (l *line[T]) put(x T) {
	last := len(l.rings) - 1
	if last < 0 || l.rings[last].Room() == 0 {
		l.rings = append(l.rings, ring.New[T](fewThings))
		last++
	}
	l.rings[last].Put(x)
	l.n++
}

// peek: 0 <= i < n.
func (l *line[T]) peek(i int) T {
	k, j := l.place(i)
	x, _ := l.rings[k].Peek(j)
	return x
}

// take: 0 <= i < n.
func (l *line[T]) take(i int) T {
	k, j := l.place(i)
	x := takeFrom(l.rings[k], j)
	if l.rings[k].Len() == 0 {
		l.rings = slices.Delete(l.rings, k, k+1)
	}
	l.n--
	return x
}

// place: in which ring the i-th thing stands, and as the how manieth there.
func (l *line[T]) place(i int) (int, int) {
	k := 0
	for i >= l.rings[k].Len() {
		i -= l.rings[k].Len()
		k++
	}
	return k, i
}

// takeFrom: a ring gives only its first thing, so those ahead of the i-th one step aside.
func takeFrom[T any](r *ring.Ring[T], i int) T {
	aside := make([]T, i)
	for k := range aside {
		aside[k], _ = r.Take()
	}
	x, _ := r.Take()
	for _, y := range slices.Backward(aside) {
		r.Front(y)
	}
	return x
}

func (l *line[T]) all() []T {
	list := make([]T, 0, l.n)
	for _, r := range l.rings {
		list = append(list, r.All()...)
	}
	return list
}
