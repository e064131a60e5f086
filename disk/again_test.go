package disk_test

import (
	"math/rand"
	"slices"
	"sort"
	"testing"

	"leat/api"
	"leat/disk"
)

// plain: a disk as the chapter tells it, each byte with its own mark whether it is synced.
type plain struct {
	files []plainFile
	room  int
	cut   bool
	more  int
	dead  bool
}

type plainFile struct {
	name   string
	bytes  []byte
	synced []bool
}

func (p *plain) at(name string) int {
	return slices.IndexFunc(p.files, func(f plainFile) bool { return f.name == name })
}

func (p *plain) used() (n int) {
	for _, f := range p.files {
		n += len(f.bytes)
	}
	return n
}

func (p *plain) done() api.Errno {
	if p.cut {
		p.more--
		p.dead = p.more == 0
	}
	return api.OK
}

func (p *plain) write(name string, b []byte) api.Errno {
	if p.dead {
		return api.ErrDiskDead
	}
	if len(name) == 0 || len(name) > 32 {
		return api.ErrDiskName
	}
	own, i := 0, p.at(name)
	if i >= 0 {
		own = len(p.files[i].bytes)
	}
	if len(b) > 1<<20 || p.used()-own+len(b) > p.room {
		return api.ErrDiskFull
	}
	if i >= 0 {
		p.files = slices.Delete(p.files, i, i+1)
	}
	p.files = append(p.files, plainFile{name, slices.Clone(b), make([]bool, len(b))})
	sort.Slice(p.files, func(i, j int) bool { return p.files[i].name < p.files[j].name })
	return p.done()
}

func (p *plain) sync(name string) api.Errno {
	if p.dead {
		return api.ErrDiskDead
	}
	i := p.at(name)
	if i < 0 {
		return api.ErrDiskNone
	}
	for j := range p.files[i].synced {
		p.files[i].synced[j] = true
	}
	return p.done()
}

func (p *plain) rename(from, to string) api.Errno {
	if p.dead {
		return api.ErrDiskDead
	}
	i := p.at(from)
	if i < 0 {
		return api.ErrDiskNone
	}
	if len(to) == 0 || len(to) > 32 {
		return api.ErrDiskName
	}
	if from != to {
		p.files = slices.DeleteFunc(p.files, func(f plainFile) bool { return f.name == to })
		p.files[p.at(from)].name = to
		sort.Slice(p.files, func(i, j int) bool { return p.files[i].name < p.files[j].name })
	}
	return p.done()
}

func (p *plain) delete(name string) api.Errno {
	if p.dead {
		return api.ErrDiskDead
	}
	i := p.at(name)
	if i < 0 {
		return api.ErrDiskNone
	}
	p.files = slices.Delete(p.files, i, i+1)
	return p.done()
}

func (p *plain) setCut(n int) {
	if p.dead {
		return
	}
	p.cut, p.more, p.dead = n >= 0, n, n == 0
}

func (p *plain) crash(keep []int) {
	for i := range p.files {
		f := &p.files[i]
		n := 0
		for n < len(f.bytes) && f.synced[n] {
			n++
		}
		for loose := 0; n < len(f.bytes) && i < len(keep) && loose < keep[i]; loose++ {
			n++
		}
		f.bytes, f.synced = f.bytes[:n], f.synced[:n]
		for j := range f.synced {
			f.synced[j] = true
		}
	}
	p.cut, p.dead = false, false
}

// same: both disks tell the same, all that can be told without changing them.
func same(t *testing.T, d *disk.Disk, p *plain) {
	t.Helper()
	if d.Used() != p.used() || d.Dead() != p.dead {
		t.Fatalf("P2.1, P2.2: Used %d, Dead %v, wanted %d, %v", d.Used(), d.Dead(), p.used(), p.dead)
	}
	var names []string
	for _, f := range p.files {
		b, e := d.Read(f.name)
		if p.dead {
			if e != api.ErrDiskDead || len(b) != 0 {
				t.Fatalf("P2.1: Read %q of a dead one: %q, %v", f.name, b, e)
			}
			continue
		}
		names = append(names, f.name)
		if e != api.OK || string(b) != string(f.bytes) {
			t.Fatalf("P2.1: Read %q: %q, %v, wanted %q", f.name, b, e, f.bytes)
		}
	}
	if !slices.Equal(d.List(), names) {
		t.Fatalf("P2.1: List: %q, wanted %q", d.List(), names)
	}
}

// step does one call on both, as the numbers tell, and holds the answers against each other.
func step(t *testing.T, r *rand.Rand, d *disk.Disk, p *plain) {
	t.Helper()
	names := []string{"a", "b", "c", "dd", "", "n23456789012345678901234567890123"}
	name, other := names[r.Intn(len(names))], names[r.Intn(len(names))]
	var got, want api.Errno
	kind := r.Intn(16)
	switch kind {
	default:
		b := make([]byte, r.Intn(12))
		r.Read(b)
		got, want = d.Write(name, b), p.write(name, b)
	case 1, 2, 3:
		got, want = d.Sync(name), p.sync(name)
	case 4, 5, 6:
		got, want = d.Rename(name, other), p.rename(name, other)
	case 7, 8:
		got, want = d.Delete(name), p.delete(name)
	case 9:
		room := r.Intn(50) - 5
		d.Room(room)
		p.room = max(room, 0)
	case 10:
		n := r.Intn(12) - 3
		d.Cut(n)
		p.setCut(n)
	case 11, 12:
		keep := make([]int, r.Intn(6))
		for i := range keep {
			keep[i] = r.Intn(14) - 2
		}
		d.Crash(keep)
		p.crash(keep)
	}
	if got != want {
		t.Fatalf("P2.1: call %d of %q, %q: %v, wanted %v", kind, name, other, got, want)
	}
}

// TestAgainstAPlainDisk: calls at random; each disk is copied on its way, and its copy goes on instead.
func TestAgainstAPlainDisk(t *testing.T) {
	for seed := range 300 {
		r := rand.New(rand.NewSource(int64(seed)))
		room := r.Intn(60) - 5
		d, p := disk.New(room), &plain{room: max(room, 0)}
		for range 120 {
			step(t, r, d, p)
			same(t, d, p)
			if r.Intn(8) == 0 {
				d = d.Copy()
				same(t, d, p)
			}
		}
	}
}

// TestManyFiles: a Write doesn't go through all files, so that many of them are no trouble.
func TestManyFiles(t *testing.T) {
	d := disk.New(1 << 20)
	name := make([]byte, 3)
	const many = 1 << 17
	for i := range many {
		name[0], name[1], name[2] = byte(i>>16), byte(i>>8), byte(i)
		if e := d.Write(string(name), name[:1]); e != api.OK {
			t.Fatalf("P2.1: Write: %v", e)
		}
	}
	if d.Used() != many || len(d.List()) != many || !slices.IsSorted(d.List()) {
		t.Errorf("P2.1: %d bytes, %d files", d.Used(), len(d.List()))
	}
	d.Crash([]int{1, 0, 1})
	if d.Used() != 2 || len(d.List()) != many {
		t.Errorf("P2.3: %d bytes, %d files", d.Used(), len(d.List()))
	}
}
