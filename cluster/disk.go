package cluster

import (
	"leat/api"
	"leat/disk"
	"leat/vault"
)

const (
	few       = 64 // A and B count bytes that a crash keeps, and calls till a cut, modulo it
	usualRoom = 1 << 20
)

// roomOf: a disk's room as it counts.
func roomOf(room int) int {
	if room < 1 {
		return usualRoom
	}
	return room
}

// open: the vault anew, which is to keep so many checkpoints. A dead disk leaves the one that there was.
func (c *Cluster) open(keep int) {
	if v, e := vault.Open(c.disk, keep); e == api.OK {
		c.vault, c.keep = v, keep
	}
}

// put: a checkpoint into the vault, that keeps the newest alone if the room is short for more.
func (c *Cluster) put(n uint64, snaps []api.Snap) api.Errno {
	keep := c.set.Keep
	if c.isShort(n, snaps) {
		keep = 1
	}
	if keep != c.keep {
		c.open(keep)
	}
	return c.vault.Put(n, c.epoch, snaps)
}

// isShort: whether a checkpoint leaves less than a third of the room. The next one may need that much, where the room is for three; and the vault deletes nothing ahead of a Put that is done, so that a full disk would stay full.
func (c *Cluster) isShort(n uint64, snaps []api.Snap) bool {
	third := c.room / 3
	if c.disk.Used() <= third {
		return false
	}
	trial := disk.New(c.room)
	if v, e := vault.Open(trial, 1); e == api.OK {
		v.Put(n, c.epoch, snaps)
	}
	return c.disk.Used()+trial.Used() > 2*third
}

// crashDisk: the coordinator, which has the disk, is down with it.
func (c *Cluster) crashDisk(even, odd int) {
	keep := make([]int, c.files())
	for i := range keep {
		keep[i] = modulo(even, few)
		if i%2 == 1 {
			keep[i] = modulo(odd, few)
		}
	}
	c.disk.Crash(keep)
	c.coord = nil
}

// files: how many there are. A dead disk doesn't tell, but a copy of it that was crashed does.
func (c *Cluster) files() int {
	d := c.disk.Copy()
	d.Crash(nil)
	return len(d.List())
}
