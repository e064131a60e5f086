package vault_test

import (
	"math"
	"reflect"
	"slices"
	"testing"

	"leat/api"
	"leat/disk"
	"leat/vault"
)

// keeps: ways in which a crash may keep bytes of up to 20 files that weren't synced.
func keeps() [][]int {
	list := [][]int{nil}
	for _, n := range []int{1, 7, 8, 25, 40, math.MaxInt} {
		all, even, odd := make([]int, 20), make([]int, 20), make([]int, 20)
		for i := range all {
			all[i] = n
			if i%2 == 0 {
				even[i] = n
			} else {
				odd[i] = n
			}
		}
		list = append(list, all, even, odd)
	}
	return list
}

// wide: a snapshot whose parts don't fit into one file.
func wide(n uint64) laid {
	marks := slices.Repeat([]int64{int64(n), -int64(n)}, 1<<15)[1:]
	return laid{n, n, []api.Snap{{Marks: marks}, {Task: 1}, {Task: 2, Marks: marks}}}
}

// afterCrash: what Open finds behind a crash in the midst of a Put of s is right, when old ones were there, all of them durable; it tells what that is.
func afterCrash(t *testing.T, v *vault.Vault, keep int, old []laid, s laid, e api.Errno) []laid {
	t.Helper()
	all := append(slices.Clone(old), s)
	found := v.List()
	if e == api.OK && !slices.Contains(found, s.n) {
		t.Errorf("P3.3: %d is put, and %v are found", s.n, found)
	}
	if !slices.Contains(found, s.n) {
		all = old
	}
	for _, x := range all[max(len(all)-keep, 0):] {
		if !slices.Contains(found, x.n) {
			t.Errorf("P3.3: %d isn't found, but %v", x.n, found)
		}
	}
	// Beyond keep there may be any, but each of them must have been put.
	there := slices.DeleteFunc(slices.Clone(all), func(x laid) bool { return !slices.Contains(found, x.n) })
	holds(t, "P3.3", v, there...)
	return there
}

// clean: nothing lies on the disk but these snapshots.
func clean(t *testing.T, d *disk.Disk, list ...laid) {
	t.Helper()
	other, _ := filled(t, 99, list...)
	if !reflect.DeepEqual(files(d), files(other)) {
		t.Errorf("P3.1: %q lie there, wanted %q", d.List(), other.List())
	}
}

// powerEnds: a Put of s, with the power gone at each of its points in turn, behind which then is called with what the disk is then.
func powerEnds(t *testing.T, d *disk.Disk, keep int, s laid, then func(*disk.Disk, *vault.Vault, api.Errno)) {
	t.Helper()
	for cut := 0; ; cut++ {
		c := d.Copy()
		v := open(t, c, keep)
		c.Cut(cut)
		e := put(v, s)
		if e != api.OK && e != api.ErrDiskDead {
			t.Fatalf("P3.1: Put, the power cut behind %d calls: %v", cut, e)
		}
		if !c.Dead() {
			if cut < 4 {
				t.Errorf("P3.3: a Put of %d calls: nothing is shown", cut)
			}
			return
		}
		then(c, v, e)
	}
}

func TestCrashAtEachPointOfAPut(t *testing.T) {
	for keep := 1; keep <= 3; keep++ {
		for olds := range 5 {
			var old []laid
			for n := range olds {
				old = append(old, plainly(uint64(n+1)))
			}
			d, _ := filled(t, 99, old...)
			for _, s := range []laid{plainly(9), {9, 1, nil}} {
				powerEnds(t, d, keep, s, func(d *disk.Disk, _ *vault.Vault, e api.Errno) {
					for _, keeping := range keeps() {
						c := d.Copy()
						c.Crash(keeping)
						v := open(t, c, keep)
						there := afterCrash(t, v, keep, old, s, e)
						goesOn(t, c, v, keep, there)
					}
				})
			}
		}
	}
}

// goesOn: the next Put behind a crash is as if nothing had been.
func goesOn(t *testing.T, d *disk.Disk, v *vault.Vault, keep int, there []laid) {
	t.Helper()
	next := laid{10, 77, parts(10, 3)}
	answers(t, "P3.3: it goes on", put(v, next), api.OK)
	there = append(there, next)
	there = there[max(len(there)-keep, 0):]
	holds(t, "P3.3: it goes on", v, there...)
	clean(t, d, there...)
}

// What a crash left is deleted by a Put, and not ahead of it: Open changes nothing, nor does a Put that is refused for its arguments.
func TestOpenLeavesWhatACrashLeft(t *testing.T) {
	d, _ := filled(t, 1, plainly(1))
	powerEnds(t, d, 1, plainly(2), func(d *disk.Disk, _ *vault.Vault, _ api.Errno) {
		d.Crash(slices.Repeat([]int{9}, 9))
		before := files(d)
		v := open(t, d, 1)
		answers(t, "P3.1: refused", put(v, plainly(1)), api.ErrVaultOld)
		answers(t, "P3.1: refused", v.Put(9, 0, []api.Snap{{Offset: -1}}), api.ErrCodecForm)
		if !reflect.DeepEqual(files(d), before) {
			t.Errorf("P3.1: nothing is deleted yet: %q lie there, wanted %q", files(d), before)
		}
		answers(t, "P3.1: Put", put(v, plainly(3)), api.OK)
		clean(t, d, plainly(3))
	})
}

func TestCrashAtEachPointOfAWidePut(t *testing.T) {
	d, _ := filled(t, 9, wide(1), plainly(2))
	powerEnds(t, d, 1, wide(3), func(d *disk.Disk, _ *vault.Vault, e api.Errno) {
		for _, keeping := range [][]int{nil, slices.Repeat([]int{9, 500000}, 4), slices.Repeat([]int{math.MaxInt}, 9)} {
			c := d.Copy()
			c.Crash(keeping)
			v := open(t, c, 1)
			afterCrash(t, v, 1, []laid{wide(1), plainly(2)}, wide(3), e)
			answers(t, "P3.3: it goes on", put(v, wide(4)), api.OK)
			clean(t, c, wide(4))
		}
	})
}

// Behind a crash the same number is put again, with other parts, and the power ends at each point of that, too.
func TestCrashAtEachPointOfPuttingAgain(t *testing.T) {
	old := []laid{plainly(1), plainly(2)}
	first, second := plainly(3), laid{3, 4, append([]api.Snap{{Task: 5}}, parts(3, 3)...)}
	d, _ := filled(t, 2, old...)
	powerEnds(t, d, 2, first, func(d *disk.Disk, _ *vault.Vault, e api.Errno) {
		for _, keeping := range keeps() {
			c := d.Copy()
			c.Crash(keeping)
			if open(t, c, 2).Has(3) {
				continue
			}
			powerEnds(t, c, 2, second, func(c *disk.Disk, _ *vault.Vault, e api.Errno) {
				for _, keeping := range [][]int{nil, slices.Repeat([]int{9}, 9), slices.Repeat([]int{math.MaxInt}, 9)} {
					last := c.Copy()
					last.Crash(keeping)
					afterCrash(t, open(t, last, 2), 2, old, second, e)
				}
			})
		}
	})
}

// The vault that met the power's end may be gone on with behind a crash, without Open.
func TestVaultGoesOnBehindACrash(t *testing.T) {
	old := []laid{plainly(1), plainly(2)}
	for _, next := range []laid{plainly(3), {3, 4, parts(8, 8)}, plainly(4)} {
		for _, keeping := range keeps() {
			d, _ := filled(t, 2, old...)
			powerEnds(t, d, 2, plainly(3), func(d *disk.Disk, v *vault.Vault, e api.Errno) {
				want := old
				if e == api.OK {
					want = []laid{plainly(2), plainly(3)}
				}
				holds(t, "P3.1: the power is gone", v, want...)
				for range 3 {
					answers(t, "P3.1: the power is gone", put(v, plainly(7)), api.ErrDiskDead)
				}
				d.Crash(keeping)
				holds(t, "P3.1: power again", v, want...)
				if e == api.OK && next.n == 3 {
					return
				}
				answers(t, "P3.1: power again", put(v, next), api.OK)
				want = []laid{want[1], next}
				holds(t, "P3.1: power again", v, want...)
				d.Crash(nil)
				holds(t, "P3.3: power again", open(t, d, 2), want...)
				clean(t, d, want...)
			})
		}
	}
}

// Behind OK every crash leaves it, also one that comes at the next call.
func TestPutIsDurable(t *testing.T) {
	for _, s := range []laid{plainly(1), {1, 2, nil}} {
		for _, keeping := range keeps() {
			d, _ := filled(t, 1, s)
			d.Cut(0)
			d.Crash(keeping)
			holds(t, "P3.1: durable", open(t, d, 1), s)
		}
	}
}

// For each room that is too small a Put is refused, and all is as it was; the least one that isn't is met, too.
func TestFullDiskRefuses(t *testing.T) {
	for _, s := range []laid{plainly(3), {3, 4, nil}, {3, 4, slices.Repeat(parts(2, 2), 3)}} {
		old := []laid{plainly(1), plainly(2)}
		d, _ := filled(t, 2, old...)
		d.Write("xyz", []byte("foreign"))
		before := files(d)
		room, refused := d.Used(), 0
		for ; ; room++ {
			c := d.Copy()
			c.Room(room)
			v := open(t, c, 2)
			e := put(v, s)
			if e == api.OK {
				holds(t, "P3.4: room enough", open(t, c, 2), plainly(2), s)
				break
			}
			refused++
			answers(t, "P3.4: no room", e, api.ErrDiskFull)
			holds(t, "P3.4: refused", v, old...)
			if !reflect.DeepEqual(files(c), before) {
				t.Errorf("P3.4: %q lie there behind a Put that was refused", c.List())
			}
			c.Crash(nil)
			holds(t, "P3.4: refused", open(t, c, 2), old...)
			c.Room(1 << 20)
			answers(t, "P3.4: room again", put(v, s), api.OK)
			holds(t, "P3.4: room again", v, plainly(2), s)
		}
		if refused < 26 {
			t.Errorf("P3.4: refused at %d rooms: nothing is shown", refused)
		}
	}
}

func TestFullDiskRefusesWideParts(t *testing.T) {
	old := []laid{wide(1), plainly(2)}
	d, _ := filled(t, 2, old...)
	room := d.Used()
	for _, more := range []int{0, 1, 100, 600000, 1048600, 1100000} {
		d.Room(room + more)
		v := open(t, d, 2)
		want := api.ErrDiskFull
		if more == 1100000 {
			want = api.OK
		}
		answers(t, "P3.4: wide parts", put(v, wide(3)), want)
		if want != api.OK {
			clean(t, d, old...)
		}
	}
	holds(t, "P3.4: wide parts", open(t, d, 2), plainly(2), wide(3))
}

// A Put that is refused in the midst of the power's end, with the room at each size.
func TestFullAndCutAtOnce(t *testing.T) {
	old := []laid{plainly(1), plainly(2)}
	d, _ := filled(t, 2, old...)
	used := d.Used()
	for more := 0; more < 400; more += 3 {
		for cut := range 12 {
			c := d.Copy()
			c.Room(used + more)
			v := open(t, c, 2)
			c.Cut(cut)
			e := put(v, plainly(3))
			c.Crash([]int{9, 9, 9, 9, 9, 9, 9})
			c.Room(1 << 20)
			there := afterCrash(t, open(t, c, 2), 2, old, plainly(3), e)
			goesOn(t, c, open(t, c, 2), 2, there)
		}
	}
}

// What crashes left takes no room from a Put: there is room for keep snapshots and one more, and no byte beyond.
func TestWhatACrashLeftMakesRoom(t *testing.T) {
	same := func(n uint64) laid { return laid{n, n, parts(2, int64(n))} }
	d, _ := filled(t, 9, same(1), same(2), same(3))
	room := d.Used()
	d, _ = filled(t, 2, same(1), same(2))
	d.Room(room)
	powerEnds(t, d, 2, same(3), func(d *disk.Disk, _ *vault.Vault, e api.Errno) {
		d.Crash(slices.Repeat([]int{math.MaxInt}, 9))
		v := open(t, d, 2)
		if n, _ := v.Newest(); n < 3 {
			answers(t, "P3.4: what a crash left", put(v, same(3)), api.OK)
		}
	})
}
