package ring_test

import (
	"math"
	"runtime"
	"slices"
	"testing"
	"weak"

	"leat/ring"
)

const greatest = 1 << 16

// holds: the ring has just these things, by each call that tells of them.
func holds[T comparable](t *testing.T, what string, r *ring.Ring[T], room int, want ...T) {
	t.Helper()
	if r.Len() != len(want) || r.Room() != room {
		t.Errorf("%s: Len %d, Room %d, wanted %d, %d", what, r.Len(), r.Room(), len(want), room)
	}
	if got := r.All(); !slices.Equal(got, want) {
		t.Errorf("%s: All %v, wanted %v", what, got, want)
	}
	for i, w := range want {
		if x, ok := r.Peek(i); x != w || !ok {
			t.Errorf("%s: Peek(%d): %v, %v, wanted %v", what, i, x, ok, w)
		}
	}
	var none T
	for _, i := range []int{len(want), len(want) + 1, -1, -len(want) - 1, math.MaxInt, math.MinInt} {
		if x, ok := r.Peek(i); x != none || ok {
			t.Errorf("%s: Peek(%d): %v, %v, wanted none", what, i, x, ok)
		}
	}
}

func takes[T comparable](t *testing.T, what string, r *ring.Ring[T], want ...T) {
	t.Helper()
	for _, w := range want {
		if x, ok := r.Take(); x != w || !ok {
			t.Errorf("%s: Take: %v, %v, wanted %v", what, x, ok, w)
		}
	}
}

func takesNone[T comparable](t *testing.T, what string, r *ring.Ring[T]) {
	t.Helper()
	var none T
	if x, ok := r.Take(); x != none || ok {
		t.Errorf("%s: Take: %v, %v, wanted none", what, x, ok)
	}
}

func says(t *testing.T, what string, got, want bool) {
	t.Helper()
	if got != want {
		t.Errorf("%s: %v, wanted %v", what, got, want)
	}
}

func TestPutAndTake(t *testing.T) {
	r := ring.New[string](2)
	holds(t, "P4.1: new", r, 2)
	takesNone(t, "P4.1: new", r)
	says(t, "P4.1: Put a", r.Put("a"), true)
	holds(t, "P4.1: a", r, 1, "a")
	says(t, "P4.1: Put b", r.Put("b"), true)
	says(t, "P4.1: Put when full", r.Put("c"), false)
	holds(t, "P4.1: full", r, 0, "a", "b")
	takes(t, "P4.1: full", r, "a")
	says(t, "P4.1: Put when not full any more", r.Put("c"), true)
	holds(t, "P4.1: full again", r, 0, "b", "c")
	takes(t, "P4.1: full again", r, "b", "c")
	takesNone(t, "P4.1: emptied", r)
	holds(t, "P4.1: emptied", r, 2)
}

func TestFront(t *testing.T) {
	r := ring.New[string](2)
	says(t, "P4.1: Front of none", r.Front("b"), true)
	says(t, "P4.1: Put", r.Put("c"), true)
	says(t, "P4.1: Front when full", r.Front("a"), true)
	holds(t, "P4.1: one above most", r, 0, "a", "b", "c")
	says(t, "P4.1: Put above most", r.Put("d"), false)
	says(t, "P4.1: Front to twice most", r.Front("z"), true)
	says(t, "P4.1: Front at twice most", r.Front("y"), false)
	holds(t, "P4.1: twice most", r, 0, "z", "a", "b", "c")
	takes(t, "P4.1: twice most", r, "z", "a")
	says(t, "P4.1: Put at most", r.Put("d"), false)
	takes(t, "P4.1: at most", r, "b")
	says(t, "P4.1: Put below most", r.Put("d"), true)
	holds(t, "P4.1: behind", r, 0, "c", "d")
}

func TestExample(t *testing.T) {
	r := ring.New[rune](2)
	says(t, "example: Put a", r.Put('a'), true)
	says(t, "example: Put b", r.Put('b'), true)
	says(t, "example: Put c", r.Put('c'), false)
	says(t, "example: Front c", r.Front('c'), true)
	takes(t, "example", r, 'c')
}

// TestMost: what most counts as, told by how many things Put and Front take.
func TestMost(t *testing.T) {
	for _, c := range []struct{ most, counts int }{
		{math.MinInt, 1}, {-1, 1}, {0, 1}, {1, 1}, {2, 2}, {7, 7}, {greatest - 1, greatest - 1}, {greatest, greatest}, {greatest + 1, greatest}, {math.MaxInt, greatest},
	} {
		r := ring.New[int](c.most)
		if r.Room() != c.counts {
			t.Errorf("P4.1: New(%d): Room %d, wanted %d", c.most, r.Room(), c.counts)
		}
		n := 0
		for r.Put(n) {
			n++
		}
		if n != c.counts || r.Len() != n || r.Room() != 0 {
			t.Errorf("P4.1: New(%d): Put took %d, Len %d, Room %d", c.most, n, r.Len(), r.Room())
		}
		for r.Front(n) {
			n++
		}
		if n != 2*c.counts || r.Len() != n || r.Room() != 0 {
			t.Errorf("P4.1: New(%d): Front took up to %d, Len %d, Room %d", c.most, n, r.Len(), r.Room())
		}
		for i := 2*c.counts - 1; i >= c.counts; i-- {
			takes(t, "P4.1: of Front, the last first", r, i)
		}
		for i := range c.counts {
			takes(t, "P4.3: of Put, the first first", r, i)
		}
		takesNone(t, "P4.1: all gone", r)
		if r.Room() != c.counts {
			t.Errorf("P4.1: New(%d), emptied: Room %d", c.most, r.Room())
		}
	}
}

func TestAllIsItsOwn(t *testing.T) {
	r := ring.New[int](3)
	for i := range 3 {
		r.Put(i)
	}
	list := r.All()
	list[0] = 9
	_ = append(list[:1], 9, 9, 9, 9)
	holds(t, "P4.1: an answer changed", r, 0, 0, 1, 2)
	other := r.All()
	takes(t, "P4.1", r, 0)
	r.Put(3)
	r.Front(8)
	if !slices.Equal(other, []int{0, 1, 2}) {
		t.Errorf("P4.1: an answer of before: %v", other)
	}
	holds(t, "P4.1: went on", r, 0, 8, 1, 2, 3)
}

func TestClear(t *testing.T) {
	r := ring.New[int](2)
	r.Clear()
	holds(t, "P4.1: Clear of none", r, 2)
	r.Put(1)
	r.Put(2)
	r.Front(3)
	takes(t, "P4.1", r, 3)
	r.Front(4)
	r.Clear()
	holds(t, "P4.1: Clear", r, 2)
	takesNone(t, "P4.1: Clear", r)
	says(t, "P4.1: Put behind Clear", r.Put(5), true)
	says(t, "P4.1: Front behind Clear", r.Front(6), true)
	says(t, "P4.1: Put when full again", r.Put(7), false)
	holds(t, "P4.1: behind Clear", r, 0, 6, 5)
}

func TestMap(t *testing.T) {
	r := ring.New[int](2)
	r.Put(9)
	r.Put(1)
	takes(t, "P4.1", r, 9)
	r.Put(2)
	r.Front(3)
	var asked []int
	m := ring.Map(r, func(x int) string {
		asked = append(asked, x)
		return string(rune('a' + x))
	})
	holds(t, "P4.1: Map", m, 0, "d", "b", "c")
	holds(t, "P4.1: Map leaves what it is of", r, 0, 3, 1, 2)
	if !slices.Equal(asked, []int{3, 1, 2}) {
		t.Errorf("P4.1: Map asked f of %v", asked)
	}
	says(t, "P4.1: Put into what Map made", m.Put("x"), false)
	says(t, "P4.1: Front of what Map made", m.Front("y"), true)
	says(t, "P4.1: Front of what Map made, at twice most", m.Front("z"), false)
	takes(t, "P4.1: what Map made", m, "y", "d")
	holds(t, "P4.1: what Map was of is apart", r, 0, 3, 1, 2)
	takes(t, "P4.1: what Map was of", r, 3, 1, 2)
	holds(t, "P4.1: what Map made is apart", m, 0, "b", "c")
}

func TestMapOfNone(t *testing.T) {
	m := ring.Map(ring.New[int](3), func(int) int { return 1 })
	holds(t, "P4.1: Map of none", m, 3)
	says(t, "P4.1: Put", m.Put(5), true)
	says(t, "P4.1: Front", m.Front(6), true)
	holds(t, "P4.1: Map of none went on", m, 1, 6, 5)
}

// TestMapOfARingThatFChanges: f of each thing that stood there when Map was called.
func TestMapOfARingThatFChanges(t *testing.T) {
	r := ring.New[int](4)
	for i := range 4 {
		r.Put(i)
	}
	m := ring.Map(r, func(x int) int {
		r.Take()
		r.Take()
		r.Put(7)
		return x + 10
	})
	holds(t, "P4.1: Map", m, 0, 10, 11, 12, 13)
	holds(t, "P4.1: what f did", r, 3, 7)
}

// TestMapOfAFunctionThatPanics: no call panics.
func TestMapOfAFunctionThatPanics(t *testing.T) {
	r := ring.New[int](3)
	for i := range 3 {
		r.Put(i)
	}
	m := ring.Map(r, func(x int) int { return 6 / (x - 1) })
	holds(t, "DOC 1: Map", m, 0, -6, 0, 6)
	holds(t, "DOC 1: what Map is of", r, 0, 0, 1, 2)
}

// TestThingsOfAllKinds: nothing is asked of a thing but that it is one.
func TestThingsOfAllKinds(t *testing.T) {
	lists := ring.New[[]int](2)
	list := []int{1, 2}
	lists.Put(list)
	lists.Put(nil)
	if x, ok := lists.Take(); !ok || &x[0] != &list[0] {
		t.Error("DOC 3: a thing isn't as it was put")
	}
	if x, ok := lists.Take(); !ok || x != nil {
		t.Error("P4.1: nil is a thing")
	}
	anything := ring.New[any](2)
	anything.Put(nil)
	holds(t, "P4.1: nil is a thing", anything, 1, nil)
	nothing := ring.New[struct{}](2)
	nothing.Put(struct{}{})
	nothing.Front(struct{}{})
	holds(t, "P4.1: things without bytes", nothing, 0, struct{}{}, struct{}{})
	great := ring.New[[1 << 17]byte](2)
	great.Put([1 << 17]byte{5: 5})
	if x, ok := great.Take(); !ok || x[5] != 5 {
		t.Error("P4.1: great things")
	}
}

func TestRingsAreApart(t *testing.T) {
	a, b := ring.New[int](2), ring.New[int](2)
	a.Put(1)
	b.Put(2)
	holds(t, "P4.1: one", a, 1, 1)
	holds(t, "P4.1: other", b, 1, 2)
}

// TestWhatIsGoneIsntHeld: neither by Take nor by Clear; what is there is.
func TestWhatIsGoneIsntHeld(t *testing.T) {
	r := ring.New[*[64]byte](8)
	var seen []weak.Pointer[[64]byte]
	for range 8 {
		x := new([64]byte)
		seen = append(seen, weak.Make(x))
		r.Put(x)
	}
	for range 4 {
		r.Take()
	}
	runtime.GC()
	for i, p := range seen {
		if gone := p.Value() == nil; gone != (i < 4) {
			t.Errorf("P4.1: the %d-th thing, behind four Takes, gone: %v", i, gone)
		}
	}
	r.Clear()
	runtime.GC()
	for i, p := range seen {
		if p.Value() != nil {
			t.Errorf("P4.1: the %d-th thing, behind Clear, is held", i)
		}
	}
	runtime.KeepAlive(r)
}

// TestManyRoomyRings: a ring's memory goes with what is in it, not with what it might hold, nor with what it held.
func TestManyRoomyRings(t *testing.T) {
	var before, behind runtime.MemStats
	runtime.GC()
	runtime.ReadMemStats(&before)
	var list []*ring.Ring[[64]byte]
	for range 50 {
		r := ring.New[[64]byte](greatest)
		for range 4096 {
			r.Put([64]byte{})
		}
		for range 4095 {
			r.Take()
		}
		list = append(list, r)
	}
	runtime.GC()
	runtime.ReadMemStats(&behind)
	if behind.HeapAlloc > before.HeapAlloc+1<<20 {
		t.Errorf("50 rings of one thing each hold %d bytes", behind.HeapAlloc-before.HeapAlloc)
	}
	runtime.KeepAlive(list)
}
