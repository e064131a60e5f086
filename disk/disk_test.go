package disk_test

import (
	"bytes"
	"math"
	"slices"
	"strings"
	"testing"

	"leat/api"
	"leat/disk"
)

// holds: the disk has just these files, by pairs of a name and its bytes, in the order of the names.
func holds(t *testing.T, promise string, d *disk.Disk, pairs ...string) {
	t.Helper()
	var names []string
	used := 0
	for i := 0; i < len(pairs); i += 2 {
		names = append(names, pairs[i])
		used += len(pairs[i+1])
		if b, e := d.Read(pairs[i]); e != api.OK || string(b) != pairs[i+1] {
			t.Errorf("%s: Read %q: %.40q, %v, wanted %.40q", promise, pairs[i], b, e, pairs[i+1])
		}
	}
	if got := d.List(); !slices.Equal(got, names) {
		t.Errorf("%s: List: %q, wanted %q", promise, got, names)
	}
	if d.Used() != used {
		t.Errorf("%s: Used: %d, wanted %d", promise, d.Used(), used)
	}
}

// answers: a call answered what it should.
func answers(t *testing.T, what string, got, want api.Errno) {
	t.Helper()
	if got != want {
		t.Errorf("%s: %v, wanted %v", what, got, want)
	}
}

// laid: a disk of much room with these files, by pairs, none of them synced.
func laid(t *testing.T, pairs ...string) *disk.Disk {
	t.Helper()
	d := disk.New(1 << 22)
	for i := 0; i < len(pairs); i += 2 {
		answers(t, "P2.1: Write "+pairs[i], d.Write(pairs[i], []byte(pairs[i+1])), api.OK)
	}
	return d
}

func TestNewDiskHasNothing(t *testing.T) {
	for _, room := range []int{math.MinInt, -1, 0, 1, math.MaxInt} {
		d := disk.New(room)
		holds(t, "P2.1: New", d)
		if d.Dead() {
			t.Errorf("P2.2: New(%d) is dead", room)
		}
		answers(t, "P2.1: Write without bytes", d.Write("a", nil), api.OK)
		want := api.ErrDiskFull
		if room > 0 {
			want = api.OK
		}
		answers(t, "P2.1: Write of one byte", d.Write("a", []byte{1}), want)
	}
}

func TestWriteAndRead(t *testing.T) {
	d := laid(t, "b", "one", "a", "", "ab", "\x00\xff")
	holds(t, "P2.1", d, "a", "", "ab", "\x00\xff", "b", "one")
	answers(t, "P2.1: Write anew", d.Write("b", []byte("other")), api.OK)
	holds(t, "P2.1: Write anew", d, "a", "", "ab", "\x00\xff", "b", "other")
	answers(t, "P2.1: Write of nothing", d.Write("b", nil), api.OK)
	holds(t, "P2.1: Write of nothing", d, "a", "", "ab", "\x00\xff", "b", "")
}

func TestReadOfNoFile(t *testing.T) {
	d := laid(t, "a", "x")
	for _, name := range []string{"", "b", "A", "a\x00", strings.Repeat("n", api.MaxName+1)} {
		if b, e := d.Read(name); e != api.ErrDiskNone || len(b) != 0 {
			t.Errorf("P2.1: Read %q: %q, %v, wanted %v", name, b, e, api.ErrDiskNone)
		}
	}
}

func TestNamesAreInTheOrderOfTheirBytes(t *testing.T) {
	sorted := []string{"\x00", "\x00\x00", "A", "B", "a", "a ", "aa", "b", "é", "\xff"}
	d := disk.New(0)
	for i := range sorted {
		d.Write(sorted[(i*7+3)%len(sorted)], nil)
	}
	if got := d.List(); !slices.Equal(got, sorted) {
		t.Errorf("P2.1: List: %q, wanted %q", got, sorted)
	}
}

func TestLengthOfNames(t *testing.T) {
	longest := strings.Repeat("n", api.MaxName)
	for _, c := range []struct {
		name string
		want api.Errno
	}{{"", api.ErrDiskName}, {"n", api.OK}, {longest, api.OK}, {longest + "n", api.ErrDiskName}} {
		d := laid(t, "z", "z")
		answers(t, "P2.1: Write "+c.name, d.Write(c.name, nil), c.want)
		if want := 2 - int(c.want/api.ErrDiskName); len(d.List()) != want {
			t.Errorf("P2.1: %d files behind Write %q, wanted %d", len(d.List()), c.name, want)
		}
		d = laid(t, "z", "z")
		answers(t, "P2.1: Rename to "+c.name, d.Rename("z", c.name), c.want)
		if c.want == api.OK {
			holds(t, "P2.1: Rename", d, c.name, "z")
		} else {
			holds(t, "P2.1: Rename", d, "z", "z")
		}
	}
}

func TestLengthOfFiles(t *testing.T) {
	d := disk.New(math.MaxInt)
	most := make([]byte, api.MaxFile)
	answers(t, "P2.1: Write of MaxFile bytes", d.Write("a", most), api.OK)
	holds(t, "P2.1", d, "a", string(most))
	answers(t, "P2.1: one more", d.Write("a", append(most, 0)), api.ErrDiskFull)
	answers(t, "P2.1: one more, of a new file", d.Write("b", append(most, 0)), api.ErrDiskFull)
	holds(t, "P2.1: refused", d, "a", string(most))
}

func TestRoomIsBounded(t *testing.T) {
	d := disk.New(10)
	answers(t, "P2.1: Write", d.Write("a", make([]byte, 6)), api.OK)
	answers(t, "P2.1: one too many", d.Write("b", make([]byte, 5)), api.ErrDiskFull)
	answers(t, "P2.1: just full", d.Write("b", make([]byte, 4)), api.OK)
	answers(t, "P2.1: no byte needs no room", d.Write("c", nil), api.OK)
	answers(t, "P2.1: the file's own bytes make room", d.Write("a", []byte("123456")), api.OK)
	answers(t, "P2.1: but no more than they are", d.Write("a", make([]byte, 7)), api.ErrDiskFull)
	holds(t, "P2.1: refused", d, "a", "123456", "b", "\x00\x00\x00\x00", "c", "")
	answers(t, "P2.1: Delete", d.Delete("b"), api.OK)
	answers(t, "P2.1: room again", d.Write("a", make([]byte, 10)), api.OK)
}

func TestRenameMakesRoom(t *testing.T) {
	d := disk.New(4)
	d.Write("a", []byte("aa"))
	d.Write("b", []byte("bb"))
	answers(t, "P2.1: Rename", d.Rename("a", "b"), api.OK)
	holds(t, "P2.1: Rename", d, "b", "aa")
	answers(t, "P2.1: Write", d.Write("c", []byte("ccc")), api.ErrDiskFull)
	answers(t, "P2.1: Write", d.Write("c", []byte("cc")), api.OK)
}

func TestRoomIsChanged(t *testing.T) {
	d := disk.New(4)
	d.Write("a", []byte("aaaa"))
	d.Room(2)
	holds(t, "P2.1: Room takes nothing away", d, "a", "aaaa")
	answers(t, "P2.1: above the room", d.Write("b", nil), api.ErrDiskFull)
	answers(t, "P2.1: the file's own bytes don't count", d.Write("a", []byte("aa")), api.OK)
	d.Room(5)
	answers(t, "P2.1: more room", d.Write("b", []byte("bbb")), api.OK)
	d.Room(math.MinInt)
	answers(t, "P2.1: no room", d.Write("c", nil), api.ErrDiskFull)
	d.Delete("a")
	answers(t, "P2.1: no room", d.Write("b", []byte("b")), api.ErrDiskFull)
	answers(t, "P2.1: no room is needed", d.Write("b", nil), api.OK)
}

func TestRoomBelowNoughtIsNought(t *testing.T) {
	d := disk.New(9)
	d.Room(-3)
	answers(t, "P2.1: Room(-3)", d.Write("a", nil), api.OK)
}

func TestErrorsOfNames(t *testing.T) {
	d := laid(t, "a", "x")
	long := strings.Repeat("n", api.MaxName+1)
	answers(t, "P2.1: no name comes ahead of no room", d.Write("", make([]byte, api.MaxFile+1)), api.ErrDiskName)
	answers(t, "P2.1: Sync of none", d.Sync("b"), api.ErrDiskNone)
	answers(t, "P2.1: Sync of no name", d.Sync(""), api.ErrDiskNone)
	answers(t, "P2.1: Delete of none", d.Delete("b"), api.ErrDiskNone)
	answers(t, "P2.1: Delete of no name", d.Delete(long), api.ErrDiskNone)
	answers(t, "P2.1: Rename of none", d.Rename("b", "a"), api.ErrDiskNone)
	answers(t, "P2.1: Rename of none to no name", d.Rename("b", ""), api.ErrDiskNone)
	answers(t, "P2.1: Rename to no name", d.Rename("a", long), api.ErrDiskName)
	holds(t, "P2.1: refused", d, "a", "x")
}

func TestRename(t *testing.T) {
	d := laid(t, "a", "one", "b", "second")
	answers(t, "P2.1: Rename", d.Rename("a", "c"), api.OK)
	holds(t, "P2.1: Rename", d, "b", "second", "c", "one")
	answers(t, "P2.1: Rename over another", d.Rename("c", "b"), api.OK)
	holds(t, "P2.1: Rename over another", d, "b", "one")
	answers(t, "P2.1: Rename to itself", d.Rename("b", "b"), api.OK)
	holds(t, "P2.1: Rename to itself", d, "b", "one")
}

func TestRenameTakesWhatIsSyncedAlong(t *testing.T) {
	d := laid(t, "a", "synced", "b", "loose")
	d.Sync("a")
	for _, names := range [][2]string{{"a", "c"}, {"b", "a"}, {"c", "b"}, {"b", "b"}} {
		answers(t, "P2.1: Rename", d.Rename(names[0], names[1]), api.OK)
	}
	d.Crash(nil)
	holds(t, "P2.1: Rename", d, "a", "", "b", "synced")
}

func TestRenameOverASyncedFile(t *testing.T) {
	d := laid(t, "a", "loose", "b", "synced")
	d.Sync("b")
	d.Rename("a", "b")
	d.Crash([]int{2})
	holds(t, "P2.1: none of it is synced", d, "b", "lo")
}

func TestDelete(t *testing.T) {
	d := laid(t, "a", "one", "b", "second")
	d.Sync("a")
	answers(t, "P2.1: Delete", d.Delete("a"), api.OK)
	holds(t, "P2.1: Delete", d, "b", "second")
	answers(t, "P2.1: Delete again", d.Delete("a"), api.ErrDiskNone)
	d.Crash([]int{9, 9})
	holds(t, "P2.1: it is gone", d, "b", "second")
}

func TestArgumentsAreNotKept(t *testing.T) {
	d := disk.New(100)
	room := []byte("abcdef")
	d.Write("a", room[:3])
	copy(room, "xxxxxx")
	holds(t, "P2.1: not kept", d, "a", "abc")
	if string(room) != "xxxxxx" {
		t.Error("P2.1: what is handed in is changed")
	}
	keep := []int{5, 6, 7}
	d.Crash(keep[:1])
	if !slices.Equal(keep, []int{5, 6, 7}) {
		t.Errorf("P2.3: what is handed in is changed: %v", keep)
	}
}

func TestAnswersAreNewMemory(t *testing.T) {
	d := laid(t, "a", "abc", "b", "def")
	b, _ := d.Read("a")
	copy(append(b, 'y')[:4], "xxxx")
	names := d.List()
	names[0] = "c"
	holds(t, "P2.1: new memory", d, "a", "abc", "b", "def")
}

func TestCut(t *testing.T) {
	for n := range 6 {
		d := laid(t, "a", "abc")
		d.Cut(n)
		calls := []func() api.Errno{
			func() api.Errno { return d.Write("b", []byte("b")) },
			func() api.Errno { return d.Sync("b") },
			func() api.Errno { return d.Rename("b", "c") },
			func() api.Errno { return d.Delete("c") },
			func() api.Errno { return d.Write("a", nil) },
		}
		for i, call := range calls {
			if d.Dead() != (i >= n) {
				t.Errorf("P2.2: Cut(%d): Dead is %v behind %d calls", n, d.Dead(), i)
			}
			want := api.OK
			if i >= n {
				want = api.ErrDiskDead
			}
			answers(t, "P2.2: call", call(), want)
		}
		if d.Dead() != (n <= len(calls)) {
			t.Errorf("P2.2: Cut(%d): Dead is %v behind all calls", n, d.Dead())
		}
	}
}

func TestCutCountsWhatIsDoneAlone(t *testing.T) {
	d := laid(t, "a", "abc")
	d.Cut(1)
	d.Write("", nil)
	d.Write("b", make([]byte, api.MaxFile+1))
	d.Read("a")
	d.Read("b")
	d.Sync("b")
	d.Rename("b", "c")
	d.Rename("a", "")
	d.Delete("b")
	d.List()
	d.Used()
	d.Room(1 << 20)
	d.Dead()
	d.Copy()
	if d.Dead() {
		t.Error("P2.2: what isn't done counts")
	}
	holds(t, "P2.2", d, "a", "abc")
	answers(t, "P2.2: Rename to itself is done", d.Rename("a", "a"), api.OK)
	if !d.Dead() {
		t.Error("P2.2: not dead")
	}
}

func TestCutIsSetAnew(t *testing.T) {
	d := laid(t, "a", "abc")
	for _, n := range []int{-1, -2, math.MinInt} {
		d.Cut(1)
		d.Cut(n)
		for range 3 {
			answers(t, "P2.2: never", d.Sync("a"), api.OK)
		}
	}
	d.Cut(1)
	d.Cut(2)
	answers(t, "P2.2: Cut anew", d.Sync("a"), api.OK)
	answers(t, "P2.2: Cut anew", d.Sync("a"), api.OK)
	answers(t, "P2.2: Cut anew", d.Sync("a"), api.ErrDiskDead)
	many := laid(t, "a", "abc")
	many.Cut(math.MaxInt)
	answers(t, "P2.2: a great Cut", many.Sync("a"), api.OK)
	if many.Dead() {
		t.Error("P2.2: a great Cut")
	}
}

func TestDeadAnswersNothingElse(t *testing.T) {
	d := laid(t, "a", "abc", "b", "de")
	d.Cut(0)
	answers(t, "P2.1: Write", d.Write("", make([]byte, api.MaxFile+1)), api.ErrDiskDead)
	answers(t, "P2.1: Write", d.Write("a", nil), api.ErrDiskDead)
	answers(t, "P2.1: Sync", d.Sync("a"), api.ErrDiskDead)
	answers(t, "P2.1: Sync", d.Sync("none"), api.ErrDiskDead)
	answers(t, "P2.1: Rename", d.Rename("a", "c"), api.ErrDiskDead)
	answers(t, "P2.1: Rename", d.Rename("none", ""), api.ErrDiskDead)
	answers(t, "P2.1: Delete", d.Delete("a"), api.ErrDiskDead)
	answers(t, "P2.1: Delete", d.Delete("none"), api.ErrDiskDead)
	for _, name := range []string{"a", "none"} {
		if b, e := d.Read(name); e != api.ErrDiskDead || len(b) != 0 {
			t.Errorf("P2.1: Read %s: %q, %v", name, b, e)
		}
	}
	if len(d.List()) != 0 {
		t.Errorf("P2.1: List of a dead one: %q", d.List())
	}
	if d.Used() != 5 {
		t.Errorf("P2.1: Used of a dead one: %d", d.Used())
	}
	d.Room(100)
	d.Crash([]int{9, 9})
	holds(t, "P2.1: nothing has changed", d, "a", "abc", "b", "de")
}

func TestDeadStaysDeadTillCrash(t *testing.T) {
	d := laid(t, "a", "abc")
	d.Cut(0)
	for _, n := range []int{-1, 0, 5} {
		d.Cut(n)
		d.Room(n)
		if !d.Dead() || d.Sync("a") != api.ErrDiskDead {
			t.Errorf("P2.2: not dead behind Cut(%d)", n)
		}
	}
	d.Room(100)
	d.Crash(nil)
	if d.Dead() {
		t.Error("P2.3: dead behind Crash")
	}
	for range 7 {
		answers(t, "P2.3: no Cut is left", d.Write("a", nil), api.OK)
	}
}

func TestCrashTakesACutBack(t *testing.T) {
	d := laid(t, "a", "abc")
	d.Cut(1)
	d.Crash(nil)
	answers(t, "P2.3: Sync", d.Sync("a"), api.OK)
	if d.Dead() {
		t.Error("P2.3: the Cut isn't taken back")
	}
}

func TestCrashExample(t *testing.T) {
	d := laid(t, "a", "xyz")
	d.Sync("a")
	d.Write("a", []byte("pqrs"))
	d.Crash([]int{2})
	holds(t, "P2.3", d, "a", "pq")
}

func TestCrashKeepsAsManyBytesAsIsTold(t *testing.T) {
	for keep, want := range map[int]string{math.MinInt: "", -1: "", 0: "", 1: "a", 2: "ab", 3: "abc", 4: "abc", math.MaxInt: "abc"} {
		d := laid(t, "a", "abc")
		d.Crash([]int{keep})
		holds(t, "P2.3", d, "a", want)
		d.Crash(nil)
		holds(t, "P2.3: they are synced then", d, "a", want)
	}
}

func TestCrashKeepsWhatIsSynced(t *testing.T) {
	for _, keep := range [][]int{nil, {0}, {1}, {-1}, {math.MinInt}, {math.MaxInt}} {
		d := laid(t, "a", "abc")
		d.Sync("a")
		d.Crash(keep)
		holds(t, "P2.3", d, "a", "abc")
	}
}

func TestCrashGoesByNames(t *testing.T) {
	d := laid(t, "c", "ccc", "a", "aaa", "d", "ddd", "b", "bbb", "e", "")
	d.Sync("b")
	d.Crash([]int{1, 0, 2})
	holds(t, "P2.3", d, "a", "a", "b", "bbb", "c", "cc", "d", "", "e", "")
	more := laid(t, "a", "aaa")
	more.Crash([]int{1, 2, 3})
	holds(t, "P2.3: keep is longer", more, "a", "a")
	none := laid(t)
	none.Crash([]int{1})
	holds(t, "P2.3: no file", none)
}

func TestCrashGoesByNamesWhenDead(t *testing.T) {
	d := laid(t, "b", "bbb", "a", "aaa")
	d.Cut(0)
	d.Crash([]int{1, 2})
	holds(t, "P2.3", d, "a", "a", "b", "bb")
}

func TestCrashMakesRoom(t *testing.T) {
	d := disk.New(3)
	d.Write("a", []byte("aaa"))
	d.Crash([]int{1})
	answers(t, "P2.3: the room stays", d.Write("b", []byte("bbb")), api.ErrDiskFull)
	answers(t, "P2.3: what is lost needs none", d.Write("b", []byte("bb")), api.OK)
}

func TestCopyIsTheSame(t *testing.T) {
	d := disk.New(8)
	d.Write("a", []byte("abc"))
	d.Sync("a")
	d.Write("b", []byte("def"))
	d.Cut(2)
	c := d.Copy()
	holds(t, "P2.3: Copy", c, "a", "abc", "b", "def")
	answers(t, "P2.3: the room", c.Write("c", []byte("ghi")), api.ErrDiskFull)
	answers(t, "P2.3: the Cut", c.Write("c", []byte("gh")), api.OK)
	answers(t, "P2.3: the Cut", c.Delete("c"), api.OK)
	if !c.Dead() || d.Dead() {
		t.Errorf("P2.3: the Cut: %v, %v", c.Dead(), d.Dead())
	}
	dead := c.Copy()
	if !dead.Dead() {
		t.Error("P2.3: death")
	}
	dead.Crash(nil)
	holds(t, "P2.3: synced parts", dead, "a", "abc", "b", "")
	if !c.Dead() {
		t.Error("P2.3: they touch one another")
	}
}

func TestDisksDontTouchOneAnother(t *testing.T) {
	d := laid(t, "a", "abc", "b", "def")
	c := d.Copy()
	other := disk.New(100)
	c.Write("a", []byte("x"))
	c.Delete("b")
	c.Write("c", nil)
	c.Room(0)
	holds(t, "P2.3: Copy", d, "a", "abc", "b", "def")
	d.Sync("a")
	d.Rename("a", "z")
	d.Write("y", []byte("y"))
	holds(t, "P2.3: Copy", c, "a", "x", "c", "")
	holds(t, "P2.1: New", other)
}

func TestCopyHasItsOwnSyncedParts(t *testing.T) {
	d := laid(t, "a", "abc")
	c := d.Copy()
	d.Sync("a")
	c.Crash(nil)
	d.Crash(nil)
	holds(t, "P2.3", c, "a", "")
	holds(t, "P2.3", d, "a", "abc")
}

// TestSyncedAndRenamedOutlastsAnyCrash: the way a snapshot is laid, with the power cut behind each of its calls.
func TestSyncedAndRenamedOutlastsAnyCrash(t *testing.T) {
	whole := []byte("all of it")
	for n := range 5 {
		for _, keep := range [][]int{nil, {-1, -1}, {0, 0}, {4, 4}, {99, 99}} {
			d := laid(t, "there", "old")
			d.Sync("there")
			d.Cut(n)
			e := d.Write("new", whole)
			if e == api.OK {
				e = d.Sync("new")
			}
			if e == api.OK {
				e = d.Rename("new", "there")
			}
			if (e == api.OK) != (n >= 3) {
				t.Errorf("P2.2: Cut(%d): %v", n, e)
			}
			d.Crash(keep)
			want := []byte("old")
			if n >= 3 {
				want = whole
			}
			if b, e := d.Read("there"); e != api.OK || !bytes.Equal(b, want) {
				t.Errorf("P2.4: Cut(%d), Crash(%v): %q, %v, wanted %q", n, keep, b, e, want)
			}
		}
	}
}
