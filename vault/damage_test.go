package vault_test

import (
	"slices"
	"strconv"
	"testing"

	"leat/api"
	"leat/codec"
	"leat/disk"
	"leat/vault"
)

// withFile: a disk like d, but for the bytes of one file.
func withFile(d *disk.Disk, name string, b []byte) *disk.Disk {
	c := d.Copy()
	c.Write(name, b)
	c.Sync(name)
	return c
}

// damaged: of the snapshots that were put Open finds all but one at most, each of them just as it was, and it goes on with them.
func damaged(t *testing.T, what string, d *disk.Disk, list ...laid) {
	t.Helper()
	v := open(t, d, 9)
	there := slices.DeleteFunc(slices.Clone(list), func(s laid) bool { return !v.Has(s.n) })
	if len(there) != len(list)-1 {
		t.Errorf("P3.1: %s: %v are found", what, v.List())
	}
	holds(t, "P3.1: "+what, v, there...)
	// The one that isn't there any more may be put anew, if it was the greatest.
	if last := list[len(list)-1]; !v.Has(last.n) {
		last.epoch++
		answers(t, "P3.1: "+what+": put anew", put(v, last), api.OK)
		there = append(there, last)
		holds(t, "P3.1: "+what+": put anew", v, there...)
		holds(t, "P3.1: "+what+": put anew", open(t, d, 9), there...)
	}
	answers(t, "P3.1: "+what+": put", put(v, plainly(20)), api.OK)
	clean(t, d, append(there, plainly(20))...)
}

func damagedOnes() []laid {
	return []laid{plainly(1), {2, 3, []api.Snap{{Task: 4}}}, plainly(3)}
}

func TestTornFiles(t *testing.T) {
	d, _ := filled(t, 9, damagedOnes()...)
	for _, name := range d.List() {
		b, _ := d.Read(name)
		for size := range b {
			damaged(t, name+" is torn", withFile(d, name, b[:size]), damagedOnes()...)
		}
	}
}

func TestLongerFiles(t *testing.T) {
	d, _ := filled(t, 9, damagedOnes()...)
	for _, name := range d.List() {
		b, _ := d.Read(name)
		for _, more := range [][]byte{{0}, {1}, make([]byte, 8), b} {
			damaged(t, name+" is longer", withFile(d, name, slices.Concat(b, more)), damagedOnes()...)
		}
	}
}

func TestFilesWithAnotherBit(t *testing.T) {
	d, _ := filled(t, 9, damagedOnes()...)
	for _, name := range d.List() {
		b, _ := d.Read(name)
		for bit := range 8 * len(b) {
			b[bit/8] ^= 1 << (bit % 8)
			damaged(t, name+" has another bit", withFile(d, name, b), damagedOnes()...)
			b[bit/8] ^= 1 << (bit % 8)
		}
	}
}

func TestFilesThatAreGone(t *testing.T) {
	d, _ := filled(t, 9, damagedOnes()...)
	for _, name := range d.List() {
		c := d.Copy()
		c.Delete(name)
		damaged(t, name+" is gone", c, damagedOnes()...)
	}
}

// A file that is whole, but in the place of another one, is not trusted.
func TestFilesInThePlaceOfOthers(t *testing.T) {
	d, _ := filled(t, 9, damagedOnes()...)
	for _, name := range d.List() {
		for _, other := range d.List() {
			if b, _ := d.Read(other); other != name {
				damaged(t, name+" is "+other, withFile(d, name, b), damagedOnes()...)
			}
		}
	}
}

// Snapshots of the same numbers from another disk don't mix with those of this one.
func TestFilesFromAnotherDisk(t *testing.T) {
	d, _ := filled(t, 9, damagedOnes()...)
	other, _ := filled(t, 9, laid{1, 10, parts(1, 5)}, laid{2, 3, []api.Snap{{Task: 5}}}, laid{3, 30, parts(3, 5)})
	for _, name := range other.List() {
		b, _ := other.Read(name)
		c := withFile(d, name, b)
		if _, e := d.Read(name); e == api.OK {
			damaged(t, name+" is from another disk", c, damagedOnes()...)
			continue
		}
		holds(t, "P3.1: "+name+" is from another disk", open(t, c, 9), damagedOnes()...)
	}
}

// Two files whose places are changed: neither snapshot is there any more, or neither has changed.
func TestFilesThatChangedPlaces(t *testing.T) {
	d, _ := filled(t, 9, damagedOnes()...)
	for _, a := range d.List() {
		for _, b := range d.List() {
			c := d.Copy()
			c.Rename(a, "xyz")
			c.Rename(b, a)
			c.Rename("xyz", b)
			v := open(t, c, 9)
			for _, s := range damagedOnes() {
				if !just(v, s) && !lacks(v, s.n) {
					t.Errorf("P3.1: %s and %s: %d isn't as it was put", a, b, s.n)
				}
			}
			if a != b && len(v.List()) > 2 {
				t.Errorf("P3.1: %s and %s: %v are found", a, b, v.List())
			}
		}
	}
}

// Under no other name is a file more than it was.
func TestFilesUnderOtherNames(t *testing.T) {
	d, _ := filled(t, 9, damagedOnes()...)
	for _, name := range d.List() {
		b, _ := d.Read(name)
		for i := range name {
			for _, digit := range "09az." {
				other := name[:i] + string(digit) + name[i+1:]
				if other == name || slices.Contains(d.List(), other) {
					continue
				}
				holds(t, "P3.1: "+other, open(t, withFile(d, other, b), 9), damagedOnes()...)
				c := d.Copy()
				c.Rename(name, other)
				if v := open(t, c, 9); len(v.List()) != 2 {
					t.Errorf("P3.1: %s is called %s: %v are found", name, other, v.List())
				}
			}
		}
	}
}

// A snapshot of several chunks of which two changed places, contents and all, is not whole.
func TestChunksThatChangedPlaces(t *testing.T) {
	d, _ := filled(t, 1, wide(1))
	for _, a := range d.List() {
		for _, b := range d.List() {
			c := d.Copy()
			c.Rename(a, "xyz")
			c.Rename(b, a)
			c.Rename("xyz", b)
			v, e := vault.Open(c, 1)
			if e != api.OK || v.Has(1) != (a == b) {
				t.Errorf("P3.1: %s and %s changed places: %v, %v", a, b, v.List(), e)
			}
		}
	}
}

func TestForeignBytesAreAsIfTheyWerent(t *testing.T) {
	d, _ := filled(t, 9, damagedOnes()...)
	names := append(d.List(), "xyz", "x", "x1")
	for _, name := range names {
		for _, text := range []string{"", "foreign", "\x00\x00\x00\x00\x00\x00\x00\x00", "\xff\xff\xff\xff\xff\xff\xff\xff\xff"} {
			c := withFile(d, name, []byte(text))
			if name[0] == 'x' {
				holds(t, "P3.1: foreign", open(t, c, 9), damagedOnes()...)
				continue
			}
			damaged(t, name+" is foreign", c, damagedOnes()...)
		}
	}
}

// crafted: a disk on which, beside the snapshots, a manifest of n lies whose one chunk has these bytes, all names, lengths and sums being right.
func crafted(t *testing.T, d *disk.Disk, n uint64, chunk []byte) *disk.Disk {
	t.Helper()
	number := strconv.FormatUint(n, 36)
	name := "part." + number + ".0." + strconv.FormatUint(uint64(codec.Sum(chunk)), 36)
	b, e := codec.Manifest(api.Manifest{N: n, Epoch: 7, Files: []string{name}})
	answers(t, "P1.5: Manifest", e, api.OK)
	return withFile(withFile(d, name, codec.Seal(chunk)), "whole."+number, codec.Seal(b))
}

// Neither lengths nor sums alone are trusted: what lies behind them must be what a Put writes.
func TestForeignFilesWithTheRightSums(t *testing.T) {
	d, _ := filled(t, 9, damagedOnes()...)
	b, _ := codec.Snap(api.Snap{Task: 3})
	part := codec.Seal(b)
	holds(t, "P3.1: the crafted one is as Put writes it", open(t, crafted(t, d, 5, part), 9), append(damagedOnes(), laid{5, 7, []api.Snap{{Task: 3}}})...)
	for what, c := range map[string]*disk.Disk{
		"number 0":           crafted(t, d, 0, part),
		"a chunk of nothing": crafted(t, d, 5, nil),
		"no seal":            crafted(t, d, 5, b),
		"half a seal":        crafted(t, d, 5, slices.Concat(part, part[:9])),
		"no part in a seal":  crafted(t, d, 5, codec.Seal(b[1:])),
		"and one behind it":  crafted(t, d, 5, slices.Concat(part, codec.Seal(nil))),
		"no manifest":        withFile(d, "whole.5", codec.Seal([]byte("foreign"))),
		"a part as manifest": withFile(d, "whole.5", part),
	} {
		v := open(t, c, 9)
		holds(t, "P3.1: "+what, v, damagedOnes()...)
		answers(t, "P3.1: "+what, put(v, plainly(5)), api.OK)
		clean(t, c, append(damagedOnes(), plainly(5))...)
	}
}
