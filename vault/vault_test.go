package vault_test

import (
	"bytes"
	"math"
	"reflect"
	"slices"
	"testing"

	"leat/api"
	"leat/disk"
	"leat/vault"
)

// laid: a snapshot as it was put.
type laid struct {
	n, epoch uint64
	snaps    []api.Snap
}

// plain: the parts with nil for each list without elements: they are the same.
func plain(snaps []api.Snap) []api.Snap {
	var list []api.Snap
	for _, s := range snaps {
		s.Marks = append([]int64(nil), s.Marks...)
		s.Panes = append([]api.Pane(nil), s.Panes...)
		s.Captured = append([]api.Out(nil), s.Captured...)
		list = append(list, s)
	}
	return list
}

// parts: two parts that tell of what they are, with something in each field.
func parts(n uint64, what int64) []api.Snap {
	return []api.Snap{
		{Task: int(n % 7), Offset: int(n % 100), Mark: -what, Marks: []int64{what, math.MinInt64, int64(n)}},
		{Task: 9, Panes: []api.Pane{{Key: what, Span: api.Span{From: -1, To: int64(n)}, Acc: 7}, {Key: what + 1}}, Captured: []api.Out{
			{Channel: 3, F: api.Frame{Kind: api.FrameRecord, Rec: api.Record{Key: what, Time: 2, Val: 3}}},
			{Channel: 65535, F: api.Frame{Kind: api.FrameBarrier, N: n, Over: true}},
		}},
	}
}

// plainly: a snapshot with a number, as the tests put it if it is all the same.
func plainly(n uint64) laid { return laid{n, n * 10, parts(n, int64(n))} }

func put(v *vault.Vault, s laid) api.Errno { return v.Put(s.n, s.epoch, s.snaps) }

// answers: a call answered what it should.
func answers(t *testing.T, what string, got, want api.Errno) {
	t.Helper()
	if got != want {
		t.Errorf("%s: %v, wanted %v", what, got, want)
	}
}

// open: the vault that lies on d.
func open(t *testing.T, d *disk.Disk, keep int) *vault.Vault {
	t.Helper()
	v, e := vault.Open(d, keep)
	if e != api.OK || v == nil {
		t.Fatalf("P3.1: Open: %v", e)
	}
	return v
}

// filled: a disk of much room, and a vault on it with these snapshots.
func filled(t *testing.T, keep int, list ...laid) (*disk.Disk, *vault.Vault) {
	t.Helper()
	d := disk.New(1 << 26)
	v := open(t, d, keep)
	for _, s := range list {
		answers(t, "P3.1: Put", put(v, s), api.OK)
	}
	return d, v
}

// just: Get tells s as it was put.
func just(v *vault.Vault, s laid) bool {
	snaps, epoch, e := v.Get(s.n)
	return v.Has(s.n) && e == api.OK && epoch == s.epoch && reflect.DeepEqual(plain(snaps), plain(s.snaps))
}

// lacks: nothing of n is there.
func lacks(v *vault.Vault, n uint64) bool {
	snaps, epoch, e := v.Get(n)
	return !v.Has(n) && e == api.ErrVaultNone && len(snaps) == 0 && epoch == 0
}

// holds: the vault has just these snapshots, rising.
func holds(t *testing.T, what string, v *vault.Vault, list ...laid) {
	t.Helper()
	var numbers []uint64
	for _, s := range list {
		numbers = append(numbers, s.n)
		if !just(v, s) {
			snaps, epoch, e := v.Get(s.n)
			t.Errorf("%s: of %d: %v, %.200v, %d, %v", what, s.n, v.Has(s.n), snaps, epoch, e)
		}
	}
	if got := v.List(); !slices.Equal(got, numbers) {
		t.Errorf("%s: List: %v, wanted %v", what, got, numbers)
	}
	for _, s := range append([]laid{{}, {n: 1}, {n: math.MaxUint64}}, list...) {
		for _, n := range []uint64{s.n - 1, s.n, s.n + 1} {
			if !slices.Contains(numbers, n) && !lacks(v, n) {
				t.Errorf("%s: %d is there", what, n)
			}
		}
	}
	n, ok := v.Newest()
	if ok != (len(list) > 0) || !ok && n != 0 || ok && n != numbers[len(numbers)-1] {
		t.Errorf("%s: Newest: %d, %v, wanted of %v", what, n, ok, numbers)
	}
}

func TestNothingIsThereAtFirst(t *testing.T) {
	for _, keep := range []int{math.MinInt, -1, 0, 1, math.MaxInt} {
		d := disk.New(0)
		holds(t, "P3.1: Open", open(t, d, keep))
		if len(d.List()) != 0 {
			t.Errorf("P3.1: Open has laid %q", d.List())
		}
	}
}

func TestPutAndGet(t *testing.T) {
	list := []laid{plainly(1), {2, 0, nil}, {7, math.MaxUint64, []api.Snap{{}}}, {8, 3, []api.Snap{{}, {}, {Task: 1}, {}}}, {1 << 40, 1, parts(5, 5)}}
	d, v := filled(t, 9)
	for i, s := range list {
		answers(t, "P3.1: Put", put(v, s), api.OK)
		holds(t, "P3.2", v, list[:i+1]...)
		holds(t, "P3.1: Open", open(t, d, 9), list[:i+1]...)
	}
	d.Crash(nil)
	holds(t, "P3.1: durable", open(t, d, 9), list...)
}

func TestPartsComeInTheirOrder(t *testing.T) {
	var snaps []api.Snap
	for i := range 300 {
		snaps = append(snaps, api.Snap{Task: (i * 7) % 11, Offset: i})
	}
	d, v := filled(t, 1, laid{4, 5, snaps})
	holds(t, "P3.2", v, laid{4, 5, snaps})
	holds(t, "P3.2", open(t, d, 1), laid{4, 5, snaps})
}

func TestNumbersRise(t *testing.T) {
	_, v := filled(t, 9, plainly(3), plainly(6))
	for _, n := range []uint64{0, 1, 2, 3, 4, 5, 6} {
		answers(t, "P3.1: not above", put(v, plainly(n)), api.ErrVaultOld)
	}
	holds(t, "P3.1: refused", v, plainly(3), plainly(6))
	answers(t, "P3.1: above", put(v, plainly(7)), api.OK)
	holds(t, "P3.1", v, plainly(3), plainly(6), plainly(7))
}

func TestNumberNoughtIsNone(t *testing.T) {
	d, v := filled(t, 1)
	answers(t, "P3.1: 0", v.Put(0, 0, nil), api.ErrVaultOld)
	answers(t, "P3.1: 0", put(v, plainly(0)), api.ErrVaultOld)
	holds(t, "P3.1: 0", v)
	if len(d.List()) != 0 {
		t.Errorf("P3.1: 0 has laid %q", d.List())
	}
}

func TestGreatestNumber(t *testing.T) {
	last := laid{math.MaxUint64, math.MaxUint64, parts(3, 3)}
	d, v := filled(t, 2, plainly(1), laid{math.MaxUint64 - 1, 0, parts(2, 2)}, last)
	holds(t, "P3.1", v, laid{math.MaxUint64 - 1, 0, parts(2, 2)}, last)
	answers(t, "P3.1: none is above", put(v, last), api.ErrVaultOld)
	answers(t, "P3.1: none is above", put(v, plainly(1)), api.ErrVaultOld)
	holds(t, "P3.1", open(t, d, 2), laid{math.MaxUint64 - 1, 0, parts(2, 2)}, last)
}

// Numbers are in order as numbers, however their names are in order.
func TestOpenSortsByNumbers(t *testing.T) {
	list := []laid{plainly(2), plainly(9), plainly(10), plainly(35), plainly(36), plainly(99), plainly(100), plainly(1 << 33)}
	d, _ := filled(t, 99, list...)
	v := open(t, d, 3)
	holds(t, "P3.2", v, list...)
	answers(t, "P3.1: not above", put(v, plainly(1<<33)), api.ErrVaultOld)
	answers(t, "P3.1: Put", put(v, plainly(1<<34)), api.OK)
	holds(t, "P3.1: the greatest stay", v, plainly(100), plainly(1<<33), plainly(1<<34))
}

func TestErrorsOfParts(t *testing.T) {
	frames := func(n int) []api.Out {
		list := make([]api.Out, n)
		for i := range list {
			list[i].F = api.Frame{Kind: api.FrameMark, Mark: int64(i)}
		}
		return list
	}
	for _, c := range []struct {
		what string
		s    api.Snap
		want api.Errno
	}{
		{"Task -1", api.Snap{Task: -1}, api.ErrCodecForm},
		{"Task 65535", api.Snap{Task: 65535}, api.OK},
		{"Task 65536", api.Snap{Task: 65536}, api.ErrCodecForm},
		{"Offset -1", api.Snap{Offset: -1}, api.ErrCodecForm},
		{"Offset 65535", api.Snap{Offset: 65535}, api.OK},
		{"Offset 65536", api.Snap{Offset: 65536}, api.ErrCodecForm},
		{"a frame of no kind", api.Snap{Captured: make([]api.Out, 1)}, api.ErrCodecForm},
		{"MaxPieces panes", api.Snap{Panes: make([]api.Pane, api.MaxPieces)}, api.OK},
		{"one pane more", api.Snap{Panes: make([]api.Pane, api.MaxPieces+1)}, api.ErrCodecBig},
		{"MaxPieces frames", api.Snap{Captured: frames(api.MaxPieces)}, api.OK},
		{"one frame more", api.Snap{Captured: frames(api.MaxPieces + 1)}, api.ErrCodecBig},
		{"65535 marks", api.Snap{Marks: make([]int64, 65535)}, api.OK},
		{"one mark more", api.Snap{Marks: make([]int64, 65536)}, api.ErrCodecBig},
	} {
		for _, snaps := range [][]api.Snap{{c.s}, {{}, c.s, {}}} {
			d, v := filled(t, 2, plainly(4))
			before := d.List()
			answers(t, "P3.1: "+c.what, v.Put(5, 6, snaps), c.want)
			if c.want == api.OK {
				holds(t, "P3.1: "+c.what, open(t, d, 2), plainly(4), laid{5, 6, snaps})
				continue
			}
			holds(t, "P3.1: "+c.what, v, plainly(4))
			if !slices.Equal(d.List(), before) {
				t.Errorf("P3.1: %s: %q lie there, wanted %q", c.what, d.List(), before)
			}
		}
	}
}

func TestWhichErrorCounts(t *testing.T) {
	d, v := filled(t, 1, plainly(4))
	form, big := api.Snap{Task: -1}, api.Snap{Marks: make([]int64, 65536)}
	answers(t, "P3.1: the first part counts", v.Put(5, 0, []api.Snap{form, big}), api.ErrCodecForm)
	answers(t, "P3.1: the first part counts", v.Put(5, 0, []api.Snap{{}, big, form}), api.ErrCodecBig)
	d.Cut(0)
	answers(t, "P3.1: codec's comes first", v.Put(0, 0, []api.Snap{form}), api.ErrCodecForm)
	answers(t, "P3.1: codec's comes first", v.Put(5, 0, []api.Snap{form}), api.ErrCodecForm)
	answers(t, "P3.1: then ErrVaultOld", v.Put(4, 0, nil), api.ErrVaultOld)
	answers(t, "P3.1: then ErrVaultOld", v.Put(0, 0, nil), api.ErrVaultOld)
	answers(t, "P3.1: then disk's", v.Put(5, 0, nil), api.ErrDiskDead)
	answers(t, "P3.1: then disk's", put(v, plainly(5)), api.ErrDiskDead)
	holds(t, "P3.1: refused", v, plainly(4))
}

func TestOpenOfADeadDisk(t *testing.T) {
	with, _ := filled(t, 1, plainly(1))
	for _, d := range []*disk.Disk{disk.New(100), with} {
		d.Cut(0)
		if v, e := vault.Open(d, 1); e != api.ErrDiskDead || v != nil {
			t.Errorf("P3.1: Open of a dead one: %v, %v", v, e)
		}
	}
}

// What is there stays there for the vault that has it, whether there is power or not.
func TestDeadDiskTakesNothingAway(t *testing.T) {
	d, v := filled(t, 2, plainly(1), plainly(2))
	d.Cut(0)
	holds(t, "P3.2: dead", v, plainly(1), plainly(2))
	answers(t, "P3.1: dead", put(v, plainly(3)), api.ErrDiskDead)
	holds(t, "P3.2: dead", v, plainly(1), plainly(2))
	d.Crash(nil)
	answers(t, "P3.1: power again", put(v, plainly(3)), api.OK)
	holds(t, "P3.1: power again", v, plainly(2), plainly(3))
	holds(t, "P3.1: power again", open(t, d, 2), plainly(2), plainly(3))
}

func TestKeep(t *testing.T) {
	var all []laid
	for n := range uint64(7) {
		all = append(all, plainly(n+1))
	}
	for keep, want := range map[int]int{math.MinInt: 1, -1: 1, 0: 1, 1: 1, 2: 2, 3: 3, 6: 6, 7: 7, 8: 7, math.MaxInt: 7} {
		d, v := filled(t, keep, all...)
		holds(t, "P3.1: keep", v, all[7-want:]...)
		holds(t, "P3.1: keep", open(t, d, 1), all[7-want:]...)
		other, _ := filled(t, 99, all[7-want:]...)
		if !slices.Equal(d.List(), other.List()) || d.Used() != other.Used() {
			t.Errorf("P3.1: keep %d: %q lie there, wanted %q", keep, d.List(), other.List())
		}
	}
}

func TestOpenDeletesNothing(t *testing.T) {
	d, _ := filled(t, 4, plainly(1), plainly(2), plainly(3), plainly(4))
	d.Write("xyz", []byte("foreign"))
	before := files(d)
	v := open(t, d, 2)
	holds(t, "P3.1: nothing is deleted yet", v, plainly(1), plainly(2), plainly(3), plainly(4))
	answers(t, "P3.1: refused", put(v, plainly(4)), api.ErrVaultOld)
	answers(t, "P3.1: refused", v.Put(5, 0, []api.Snap{{Task: -1}}), api.ErrCodecForm)
	if !reflect.DeepEqual(files(d), before) {
		t.Errorf("P3.1: Open has changed %q", d.List())
	}
	answers(t, "P3.1: Put", put(v, plainly(5)), api.OK)
	holds(t, "P3.1: Put deletes", v, plainly(4), plainly(5))
	holds(t, "P3.1: Put deletes", open(t, d, 2), plainly(4), plainly(5))
}

// files: all that lies on a disk.
func files(d *disk.Disk) map[string]string {
	all := map[string]string{}
	for _, name := range d.List() {
		b, _ := d.Read(name)
		all[name] = string(b)
	}
	return all
}

func TestForeignFilesAreLeftAlone(t *testing.T) {
	d, v := filled(t, 1)
	foreign := map[string]string{"x": "", "xyz": "foreign", "x.whole": "w", "xwhole.1": "w", "xpart.1.0.0": "p", "xnew.1": "n"}
	for name, text := range foreign {
		d.Write(name, []byte(text))
		d.Sync(name)
	}
	for n := range uint64(4) {
		answers(t, "P3.1: Put", put(v, plainly(n+1)), api.OK)
		v = open(t, d, 1)
		holds(t, "P3.1: foreign ones", v, plainly(n+1))
	}
	for name, text := range foreign {
		if b, e := d.Read(name); e != api.OK || string(b) != text {
			t.Errorf("P3.1: %s: %q, %v, wanted %q", name, b, e, text)
		}
	}
}

func TestArgumentsAreNotKept(t *testing.T) {
	mine := parts(1, 1)
	room := append(slices.Clone(mine), api.Snap{Task: 77})
	d, v := filled(t, 1)
	answers(t, "P3.1: Put", v.Put(1, 10, room[:2]), api.OK)
	if !reflect.DeepEqual(room[:2], mine) || room[2].Task != 77 {
		t.Errorf("P3.1: what is handed in is changed: %v", room)
	}
	room[0].Marks[0], room[1].Panes[0].Key, room[1].Captured[0].Channel = -9, -9, 9
	room[1].Task = 1234
	holds(t, "P3.1: not kept", v, plainly(1))
	holds(t, "P3.1: not kept", open(t, d, 1), plainly(1))
}

func TestAnswersAreNewMemory(t *testing.T) {
	_, v := filled(t, 2, plainly(1), plainly(2))
	snaps, _, _ := v.Get(2)
	for i := range snaps {
		s := &snaps[i]
		for j := range append(s.Marks, 0)[:len(s.Marks)] {
			s.Marks[j] = -1
		}
		clear(s.Panes)
		clear(s.Captured)
		_ = append(s.Panes, api.Pane{Key: 5})
		*s = api.Snap{}
	}
	list := v.List()
	list[0] = 99
	holds(t, "P3.2: new memory", v, plainly(1), plainly(2))
}

// A vault has as many parts as it is given, however many a manifest's files may be.
func TestManyParts(t *testing.T) {
	many := laid{1, 2, make([]api.Snap, 70000)}
	for i := range many.snaps {
		many.snaps[i].Mark = int64(i)
	}
	d, v := filled(t, 1, many)
	holds(t, "P3.1: many parts", v, many)
	d.Crash(nil)
	holds(t, "P3.1: many parts", open(t, d, 1), many)
}

// largest: a part that no other one is larger than.
func largest(what int64) api.Snap {
	s := api.Snap{Marks: make([]int64, 65535), Panes: make([]api.Pane, api.MaxPieces), Captured: make([]api.Out, api.MaxPieces)}
	for i := range s.Marks {
		s.Marks[i] = what
	}
	for i := range s.Captured {
		s.Captured[i].F = api.Frame{Kind: api.FrameRecord, Rec: api.Record{Val: what}}
	}
	return s
}

func TestLargestParts(t *testing.T) {
	large := laid{1, 2, []api.Snap{largest(1), {Task: 1}, largest(2), largest(3), {Task: 2}}}
	d, v := filled(t, 1, large)
	holds(t, "P3.1: largest parts", v, large)
	d.Crash(nil)
	v = open(t, d, 1)
	holds(t, "P3.1: largest parts", v, large)
	answers(t, "P3.1: Put", put(v, plainly(2)), api.OK)
	if other, _ := filled(t, 1, plainly(2)); !slices.Equal(d.List(), other.List()) {
		t.Errorf("P3.1: %q lie there, wanted %q", d.List(), other.List())
	}
}

// Two parts that fill a file to its last byte, with a seal of 8 bytes and 18 of its own each, and the file's seal of 8; and such that have one byte more.
func TestPartsThatJustFillAFile(t *testing.T) {
	mark, barrier := api.Out{F: api.Frame{Kind: api.FrameMark}}, api.Out{F: api.Frame{Kind: api.FrameBarrier}}
	for _, c := range []struct {
		marks    int
		captured []api.Out
		files    int
	}{
		{65528, []api.Out{barrier}, 2},
		{65524, []api.Out{mark, mark, mark, barrier}, 3},
	} {
		s := laid{1, 1, []api.Snap{{Marks: make([]int64, 65535)}, {Marks: make([]int64, c.marks), Captured: c.captured}}}
		d, v := filled(t, 1, s)
		holds(t, "P3.1: just full", v, s)
		holds(t, "P3.1: just full", open(t, d, 1), s)
		if len(d.List()) != c.files {
			t.Errorf("P3.1: the edge isn't met: %q", d.List())
		}
	}
}

// The same snapshots lie on the disk in the same way, however they came there.
func TestSameAgain(t *testing.T) {
	d, _ := filled(t, 3, plainly(1), plainly(2), plainly(3))
	other, _ := filled(t, 3, plainly(1), plainly(2), plainly(3))
	for _, name := range d.List() {
		a, _ := d.Read(name)
		b, e := other.Read(name)
		if e != api.OK || !bytes.Equal(a, b) {
			t.Errorf("P3.1: %s: %q, %q, %v", name, a, b, e)
		}
	}
}

func TestVaultsDontTouchOneAnother(t *testing.T) {
	d, v := filled(t, 2, plainly(1))
	c := d.Copy()
	w := open(t, c, 2)
	answers(t, "P3.1: Put", w.Put(2, 5, parts(7, 7)), api.OK)
	answers(t, "P3.1: Put", put(v, plainly(2)), api.OK)
	holds(t, "P3.1", v, plainly(1), plainly(2))
	holds(t, "P3.1", w, plainly(1), laid{2, 5, parts(7, 7)})
}

func TestManySnapshots(t *testing.T) {
	const many = 20000
	for _, keep := range []int{1, many / 2, many} {
		d, v := filled(t, keep)
		for n := range uint64(many) {
			if e := v.Put(n+1, n, nil); e != api.OK {
				t.Fatalf("P3.1: Put: %v", e)
			}
		}
		got := open(t, d, 1).List()
		if len(got) != keep || got[0] != uint64(many-keep+1) || !slices.Equal(got, v.List()) {
			t.Errorf("P3.1: keep %d: %d are there", keep, len(got))
		}
	}
}
