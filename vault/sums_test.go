package vault_test

import (
	"math/bits"
	"slices"
	"strings"
	"testing"

	"leat/api"
	"leat/codec"
	"leat/disk"
)

// nought: an x with h(x) = 0, if there is one. Sums are such that each bit of x turns the same bits of h, whatever the others are.
func nought(h func(x uint64) uint32) (uint64, bool) {
	type turn struct {
		bits uint32
		by   uint64
	}
	first := h(0)
	var turns []turn // each with a highest bit that none behind it has
	without := func(r turn) turn {
		for _, u := range turns {
			if r.bits^u.bits < r.bits {
				r.bits, r.by = r.bits^u.bits, r.by^u.by
			}
		}
		return r
	}
	for i := range 64 {
		r := without(turn{h(1<<i) ^ first, 1 << i})
		if r.bits != 0 {
			turns = append(turns, r)
			slices.SortFunc(turns, func(a, b turn) int { return int(int64(b.bits) - int64(a.bits)) })
		}
	}
	r := without(turn{first, 0})
	return r.by, r.bits == 0 && h(r.by) == 0
}

// variant: snapshots, one for each x, and how the name of that file begins whose bytes x changes.
type variant struct {
	head string
	of   func(x uint64) laid
}

func variants() []variant {
	// Of one sealed part the file's sum doesn't take each value, of two it does.
	one := func(x uint64) api.Snap { return api.Snap{Task: 2, Mark: int64(x)} }
	two := func(x uint64) api.Snap { return api.Snap{Task: 3, Marks: []int64{5, int64(bits.RotateLeft64(x, 13))}} }
	return []variant{
		{"part.", func(x uint64) laid { return laid{1, 7, []api.Snap{one(x)}} }},
		{"part.", func(x uint64) laid { return laid{1, 7, []api.Snap{one(x), two(x)}} }},
		{"part.", func(x uint64) laid { return laid{1, 7, []api.Snap{{Task: 1}, two(x), one(x)}} }},
		{"part.", func(x uint64) laid { return laid{1, 7, []api.Snap{one(x), {Task: 1}, {Task: 4}, two(x), {Task: 5}}} }},
		{"whole.", func(x uint64) laid { return laid{1, x, []api.Snap{{Task: 1}}} }},
		{"whole.", func(x uint64) laid { return laid{1, x, nil} }},
	}
}

// file: the disk on which the x-th snapshot lies, and the name and the bytes of the file that x changes.
func (v variant) file(t *testing.T, x uint64) (*disk.Disk, string, []byte) {
	t.Helper()
	d, _ := filled(t, 9, v.of(x))
	list := d.List()
	name := list[slices.IndexFunc(list, func(name string) bool { return strings.HasPrefix(name, v.head) })]
	b, e := d.Read(name)
	answers(t, "P2.1: Read", e, api.OK)
	return d, name, b
}

// sameSum: a snapshot whose file has the same sum behind the damage isn't taken for whole; it tells for how many ways of summing (of all bytes, or of those behind a seal's own 8) there is such a snapshot.
func (v variant) sameSum(t *testing.T, what string, damage func(b []byte, x uint64) []byte) int {
	t.Helper()
	shown := 0
	for _, from := range []int{0, 8} {
		x, ok := nought(func(x uint64) uint32 {
			_, _, b := v.file(t, x)
			c := damage(b, x)
			return codec.Sum(b[from:]) ^ codec.Sum(c[min(from, len(c)):])
		})
		if !ok {
			continue
		}
		shown++
		d, name, b := v.file(t, x)
		holds(t, "P3.1: "+what+": before", open(t, d, 9), v.of(x))
		holds(t, "P3.1: "+what, open(t, withFile(d, name, damage(b, x)), 9))
	}
	return shown
}

func TestTornFilesWithTheSameSum(t *testing.T) {
	for _, v := range variants() {
		_, _, b := v.file(t, 0)
		shown := 0
		for size := range b {
			shown += v.sameSum(t, v.head+" is torn", func(b []byte, _ uint64) []byte { return b[:size] })
		}
		if shown < len(b) {
			t.Errorf("P3.1: %s: of %d bytes %d tears have the same sum: too little is shown", v.head, len(b), shown)
		}
	}
}

// Behind the file's bytes lie those of a part that could be one of the snapshot's.
func TestLongerFilesWithTheSameSum(t *testing.T) {
	for _, v := range variants() {
		shown := v.sameSum(t, v.head+" is longer", func(b []byte, x uint64) []byte {
			more, e := codec.Snap(api.Snap{Task: 9, Offset: 5, Marks: []int64{int64(x), ^int64(x)}})
			answers(t, "P1.4: Snap", e, api.OK)
			return slices.Concat(b, codec.Seal(more))
		})
		if shown == 0 {
			t.Errorf("P3.1: %s: nothing is shown", v.head)
		}
	}
}
