package net_test

import (
	"math"
	"runtime"
	"slices"
	"testing"
	"weak"

	"leat/api"
	"leat/net"
)

// sent: a cloud of the letters of a text, each to its place.
func sent(text string) *net.Cloud[string] {
	c := net.NewCloud[string]()
	for i, x := range text {
		c.Send(i, string(x))
	}
	return c
}

// tells: one Pick, and what of it is told.
func tells[T comparable](t *testing.T, what string, c *net.Cloud[T], i, how int, to int, x T) {
	t.Helper()
	if gotTo, got, ok, e := c.Pick(i, how); gotTo != to || got != x || !ok || e != api.OK {
		t.Errorf("%s: Pick(%d, %d): %d, %v, %v, %v, wanted %d, %v", what, i, how, gotTo, got, ok, e, to, x)
	}
}

func loses[T comparable](t *testing.T, what string, c *net.Cloud[T], i int) {
	t.Helper()
	var none T
	if to, x, ok, e := c.Pick(i, 2); to != 0 || x != none || ok || e != api.OK {
		t.Errorf("%s: Pick(%d, 2): %d, %v, %v, %v, wanted zeros", what, i, to, x, ok, e)
	}
}

// floats: the cloud has just these letters, each to its number, in order.
func floats(t *testing.T, what string, c *net.Cloud[string], text string, to ...int) {
	t.Helper()
	if c.Len() != len(text) {
		t.Errorf("%s: Len %d, wanted %d", what, c.Len(), len(text))
	}
	for i, x := range text {
		tells(t, what, c, i, 1, to[i], string(x))
		tells(t, what, c, i-len(text), 1, to[i], string(x))
	}
	if c.Len() != len(text) {
		t.Errorf("%s: Len %d behind messages that were doubled, wanted %d", what, c.Len(), len(text))
	}
}

func picksNone[T comparable](t *testing.T, what string, c *net.Cloud[T]) {
	t.Helper()
	var none T
	for _, i := range []int{0, 1, -1, math.MaxInt, math.MinInt} {
		for _, how := range []int{0, 1, 2, 3, -1} {
			if to, x, ok, e := c.Pick(i, how); to != 0 || x != none || ok || e != api.ErrNetEmpty {
				t.Errorf("%s: Pick(%d, %d): %d, %v, %v, %v, wanted ErrNetEmpty", what, i, how, to, x, ok, e)
			}
		}
	}
	if c.Len() != 0 {
		t.Errorf("%s: Len %d", what, c.Len())
	}
}

func TestToldAndGone(t *testing.T) {
	for _, how := range []int{0, 3, 4, -1, -2, 1 << 32, 1<<32 + 1, 1<<32 + 2, math.MaxInt, math.MinInt} {
		c := sent("abcd")
		tells(t, "P5.2: told and gone", c, 1, how, 1, "b")
		floats(t, "P5.2: told and gone", c, "acd", 0, 2, 3)
		tells(t, "P5.2: told and gone", c, 0, how, 0, "a")
		floats(t, "P5.2: told and gone", c, "cd", 2, 3)
		tells(t, "P5.2: told and gone", c, 1, how, 3, "d")
		floats(t, "P5.2: told and gone", c, "c", 2)
		tells(t, "P5.2: told and gone", c, 0, how, 2, "c")
		picksNone(t, "P5.2: all told and gone", c)
	}
}

func TestToldAndStays(t *testing.T) {
	c := sent("abc")
	for range 3 {
		tells(t, "P5.2: doubled", c, 1, 1, 1, "b")
		floats(t, "P5.2: doubled", c, "abc", 0, 1, 2)
	}
	tells(t, "P5.3: told again", c, 1, 0, 1, "b")
	floats(t, "P5.2: not any more", c, "ac", 0, 2)
}

func TestGoneAndNotTold(t *testing.T) {
	c := sent("abcd")
	loses(t, "P5.2: lost", c, 2)
	floats(t, "P5.2: lost", c, "abd", 0, 1, 3)
	loses(t, "P5.2: lost, the last", c, -1)
	floats(t, "P5.2: lost, the last", c, "ab", 0, 1)
	loses(t, "P5.2: lost, the first", c, 0)
	floats(t, "P5.2: lost, the first", c, "b", 1)
	loses(t, "P5.2: lost, the only one", c, 7)
	picksNone(t, "P5.2: all lost", c)
	c.Send(9, "z")
	floats(t, "P5.2: goes on", c, "z", 9)
}

func TestPickOfNone(t *testing.T) {
	picksNone(t, "P5.2: new", net.NewCloud[string]())
	c := sent("a")
	c.Pick(0, 0)
	picksNone(t, "P5.2: emptied", c)
}

// TestWhichOne: i modulo Len, also below 0, with each how.
func TestWhichOne(t *testing.T) {
	const text = "abcde"
	for n := 1; n <= len(text); n++ {
		for i := -3*n - 1; i <= 3*n+1; i++ {
			at := i
			for at < 0 {
				at += n
			}
			for at >= n {
				at -= n
			}
			tells(t, "P5.2: which one", sent(text[:n]), i, 0, at, text[at:at+1])
			tells(t, "P5.2: which one", sent(text[:n]), i, 1, at, text[at:at+1])
			c := sent(text[:n])
			loses(t, "P5.2: which one", c, i)
			to := slices.Delete([]int{0, 1, 2, 3, 4}[:n], at, at+1)
			floats(t, "P5.2: which one", c, text[:at]+text[at+1:n], to...)
		}
	}
}

func TestWhichOneFarOff(t *testing.T) {
	for _, c := range []struct {
		text  string
		i, at int
	}{
		{"a", math.MaxInt, 0}, {"a", math.MinInt, 0}, {"ab", math.MaxInt, 1}, {"ab", math.MinInt, 0}, {"ab", math.MinInt + 1, 1},
		{"abc", math.MaxInt, math.MaxInt % 3}, {"abc", -math.MaxInt, (3 - math.MaxInt%3) % 3},
		{"abcd", math.MaxInt, 3}, {"abcd", math.MinInt, 0}, {"abcd", math.MinInt + 3, 3},
	} {
		tells(t, "P5.2: far off", sent(c.text), c.i, 0, c.at, c.text[c.at:c.at+1])
	}
}

func TestToWhom(t *testing.T) {
	c := net.NewCloud[int]()
	all := []int{0, -1, 7, math.MaxInt, math.MinInt, 7}
	for i, to := range all {
		c.Send(to, i)
	}
	for i, to := range all {
		tells(t, "P5.2: to whom", c, 0, 0, to, i)
	}
}

// TestOvertaken: a message goes behind those that were sent ahead of it, wherever others were taken away.
func TestOvertaken(t *testing.T) {
	c := sent("abc")
	tells(t, "P5.2: overtakes", c, 2, 0, 2, "c")
	c.Send(5, "d")
	floats(t, "P5.2: behind all", c, "abd", 0, 1, 5)
	tells(t, "P5.2: overtakes", c, 1, 0, 1, "b")
	c.Send(5, "d")
	floats(t, "P5.2: the same one again", c, "add", 0, 5, 5)
}

// TestManyMessages: told from the front, the back and the midst, each once.
func TestManyMessages(t *testing.T) {
	const many = 30000
	for _, at := range []func(left int) int{
		func(int) int { return 0 },
		func(int) int { return -1 },
		func(left int) int { return left / 2 },
		func(left int) int { return left * left },
		func(left int) int { return -7919 * left / 3 },
	} {
		c := net.NewCloud[int]()
		var under []int
		for x := range many {
			c.Send(-x, x)
			under = append(under, x)
		}
		for left := many; left > 0; left-- {
			i := at(left)
			k := (i%left + left) % left
			tells(t, "P5.2: many", c, i, 0, -under[k], under[k])
			under = slices.Delete(under, k, k+1)
			if c.Len() != left-1 || t.Failed() {
				t.Fatalf("P5.2: many: Len %d, wanted %d", c.Len(), left-1)
			}
		}
		picksNone(t, "P5.2: many, all gone", c)
	}
}

func TestMessagesOfAllKinds(t *testing.T) {
	list := []int{1}
	lists := net.NewCloud[[]int]()
	lists.Send(1, list)
	for how := 1; how >= 0; how-- {
		if to, x, ok, e := lists.Pick(0, how); to != 1 || &x[0] != &list[0] || !ok || e != api.OK {
			t.Error("DOC 3: a thing isn't as it was sent")
		}
	}
	anything := net.NewCloud[any]()
	anything.Send(0, nil)
	tells(t, "P5.2: zeros are a message", anything, 0, 0, 0, nil)
	nothing := net.NewCloud[struct{}]()
	nothing.Send(1, struct{}{})
	nothing.Send(2, struct{}{})
	tells(t, "P5.2: things without bytes", nothing, 1, 0, 2, struct{}{})
	controls := net.NewCloud[api.Control]()
	controls.Send(4, api.Control{N: 5})
	if to, x, ok, e := controls.Pick(0, 0); to != 4 || x.N != 5 || !ok || e != api.OK {
		t.Error("P5.2: controls")
	}
}

func TestCloudsAreApart(t *testing.T) {
	a, b := sent("ab"), sent("cd")
	tells(t, "P5.2: one", a, 0, 0, 0, "a")
	loses(t, "P5.2: other", b, 1)
	floats(t, "P5.2: one", a, "b", 1)
	floats(t, "P5.2: other", b, "c", 0)
}

// TestMessagesThatAreGoneArentHeld: neither those that were told nor those that were lost; the others are.
func TestMessagesThatAreGoneArentHeld(t *testing.T) {
	c := net.NewCloud[*[64]byte]()
	var seen []weak.Pointer[[64]byte]
	for range 2000 {
		x := new([64]byte)
		seen = append(seen, weak.Make(x))
		c.Send(1, x)
	}
	for i := range 1000 {
		c.Pick(i, i%2*2) // each second one, as one is gone already of each pair ahead
	}
	runtime.GC()
	for i, p := range seen {
		if gone := p.Value() == nil; gone != (i%2 == 0) {
			t.Fatalf("P5.2: the %d-th message, gone: %v", i, gone)
		}
	}
	for range 1000 {
		c.Pick(5, 0)
	}
	runtime.GC()
	for i, p := range seen {
		if p.Value() != nil {
			t.Fatalf("P5.2: the %d-th message is held", i)
		}
	}
	runtime.KeepAlive(c)
}
