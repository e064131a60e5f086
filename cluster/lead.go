package cluster

import (
	"slices"

	"leat/api"
	"leat/coord"
)

// toCoord: no task has this number.
const toCoord = -1

// hear: a control message under way comes to whom it was sent.
func (c *Cluster) hear(i, how int) {
	to, m, ok, _ := c.control.Pick(i, modulo(how, 3))
	switch {
	case !ok: // there was none, or it is lost
	case to != toCoord:
		c.order(m)
	case c.coord != nil:
		c.report(m)
	}
}

// report: a message to the coordinator. When it tells that all parts of a checkpoint are laid, they are stored.
func (c *Cluster) report(m api.Control) {
	n, l := c.coord.Take(m)
	c.tell(l)
	if n != 0 {
		c.store(n)
	}
}

// tell: what the coordinator tells the tasks gets under way.
func (c *Cluster) tell(l []api.Control) {
	for _, m := range l {
		c.control.Send(m.Task, m)
	}
}

// store: of each task the part that is laid is the one of n: no greater number begins till this one's end.
func (c *Cluster) store(n uint64) {
	var snaps []api.Snap
	for i := range c.laid {
		snaps = append(snaps, c.laid[i].snap)
		c.laid[i].snap = api.Snap{}
	}
	e := c.put(n, snaps)
	if e == api.ErrDiskDead {
		c.coord = nil
		return
	}
	if e == api.OK {
		c.look(n, snaps)
	}
	c.tell(c.coord.Stored(n, e == api.OK))
}

// tick: the coordinator's. One that finds the disk dead is down; by the next tick there is power again.
func (c *Cluster) tick() {
	if c.disk.Dead() {
		if c.coord != nil {
			c.coord = nil
			return
		}
		c.disk.Crash(nil)
	}
	if c.coord == nil || slices.ContainsFunc(c.posts, func(p post) bool { return p.down }) {
		c.begin()
		return
	}
	c.tell(c.coord.Tick())
	c.number = max(c.number, c.coord.Under())
}

// begin: a new epoch, from the newest checkpoint that there is. Whatever is under way in the channels, and at work in the tasks, would never count any more.
func (c *Cluster) begin() {
	if c.coord == nil {
		c.open(c.set.Keep)
		c.coord = coord.New(c.numbers(0), c.numbers(api.NodeSink), c.set.Interval, c.set.Timeout)
	}
	from, _ := c.vault.Newest()
	c.base, _, _ = c.vault.Get(from)
	c.look(from, c.base) // it may be one whose Put the power's end cut short
	c.epoch++
	for _, ch := range c.channels {
		ch.Kill(c.epoch)
	}
	for i := range c.posts {
		c.posts[i].work, c.posts[i].down = nil, false
	}
	clear(c.laid)
	c.tell(c.coord.Begin(c.epoch, from, c.number))
}

// numbers: of the tasks of a kind of node, or of all (0).
func (c *Cluster) numbers(kind int) []int {
	var l []int
	for no, t := range c.plan.Tasks {
		if kind == 0 || c.kind(t.Node) == kind {
			l = append(l, no)
		}
	}
	return l
}

// look: whether a durable checkpoint is an end. All those behind the first one are, too.
func (c *Cluster) look(n uint64, snaps []api.Snap) {
	if c.end == 0 && !slices.ContainsFunc(snaps, c.goesOn) {
		c.end = n
	}
}

// goesOn: whether there is something still to be read or worked on behind a part. A source that has no maximal mark to read always goes on.
func (c *Cluster) goesOn(s api.Snap) bool {
	at := c.plan.Tasks[s.Task]
	if c.kind(at.Node) == api.NodeSource {
		return s.Offset < len(c.items(at)) || s.Mark < api.MaxMark
	}
	return slices.Min(s.Marks) < api.MaxMark || len(s.Captured) > 0
}

// isFinished: whether all sinks have committed an end that is durable. The least one comes first: who has a greater one has it, too.
func (c *Cluster) isFinished() bool {
	if c.end == 0 {
		return false
	}
	l := c.vault.List()
	at := slices.IndexFunc(l, func(n uint64) bool { return n >= c.end })
	return at >= 0 && c.isCommitted(l[at])
}

func (c *Cluster) isCommitted(n uint64) bool {
	for _, t := range c.plan.Tasks {
		if log := c.sinks[t.Node]; log != nil && log.Last(t.Part) < n {
			return false
		}
	}
	return true
}
