package cluster

import (
	"leat/api"
	"leat/task"
)

// post: where a task stands, whatever becomes of the task itself.
type post struct {
	from, to []int // channels
	down     bool
	work     stepper // nil: it is down, or hasn't been restored in the newest epoch
}

// step: a task that has sent all that it told goes on.
func (c *Cluster) step(no, b int) {
	if no < 0 || no >= len(c.posts) || c.posts[no].work == nil || c.isBehind(no) {
		return
	}
	c.told.Send(c.posts[no].work.step(b))
}

// isBehind: whether a channel from a task has a backlog.
func (c *Cluster) isBehind(no int) bool {
	for _, ch := range c.posts[no].from {
		if c.channels[ch].Backlog() > 0 {
			return true
		}
	}
	return false
}

// passOn: what a task told in an event stands in a queue, and goes on its way when the event is done.
func (c *Cluster) passOn() {
	for t, ok := c.told.Receive(); ok; t, ok = c.told.Receive() {
		for _, o := range t.outs {
			c.channels[o.Channel].Offer(o.F)
		}
		if t.part.n != 0 {
			c.laid[t.no] = t.part
			c.reply(api.CtlAck, t.part.n, t.no)
		}
	}
}

// send: a frame moves along a channel.
func (c *Cluster) send(ch int) {
	if ch < 0 || ch >= len(c.channels) || !c.channels[ch].Send() {
		return
	}
	c.most = max(c.most, c.channels[ch].Moving()+c.channels[ch].Waiting())
}

func (c *Cluster) deliver(ch int) {
	if ch >= 0 && ch < len(c.channels) {
		c.channels[ch].Deliver()
	}
}

// order: a message to a task. Of an elder epoch there is nothing left that it could be about. A task that went down in this epoch doesn't come back by a late word of it; and to one that wasn't restored nothing else is told.
func (c *Cluster) order(m api.Control) {
	p := &c.posts[m.Task]
	if m.Epoch != c.epoch || p.down {
		return
	}
	switch m.Kind {
	case api.CtlRestore:
		if p.work == nil {
			c.restore(m.Task, m.N)
		}
		c.reply(api.CtlReady, m.N, m.Task)
	case api.CtlTrigger:
		c.trigger(m.N, m.Task)
	case api.CtlCommit:
		if p.work.commit(m.N) {
			c.reply(api.CtlDone, m.N, m.Task)
		}
	}
}

// trigger: a part that is laid already is acked once more: the message that told it may be lost.
func (c *Cluster) trigger(n uint64, no int) {
	if c.laid[no].n == n {
		c.reply(api.CtlAck, n, no)
		return
	}
	c.told.Send(c.posts[no].work.trigger(n, c.isOver(n)))
}

// isOver: whether a checkpoint of this number is unaligned.
func (c *Cluster) isOver(n uint64) bool {
	switch modulo(c.set.Over, 3) {
	case 1:
		return true
	case 2:
		return n%2 == 0
	}
	return false
}

// restore: a task is made anew, as it was at what the epoch begins from: checkpoint n, or nothing.
func (c *Cluster) restore(no int, n uint64) {
	at := c.plan.Tasks[no]
	t := task.New(c.job, c.plan, no, c.items(at))
	var outs []api.Out
	var recs []api.Record
	if n > 0 {
		outs, recs, _ = t.Restore(c.base[no])
		c.base[no] = api.Snap{}
	}
	p := &c.posts[no]
	w := worker{no: no, task: t, to: p.to, channels: c.channels}
	switch c.kind(at.Node) {
	case api.NodeSource:
		p.work = source{no: no, task: t}
	case api.NodeSink:
		log := c.sinks[at.Node]
		log.Abort(at.Part, n)
		p.work = &outlet{worker: w, log: log, part: at.Part, recs: recs}
	default:
		p.work = &w
	}
	c.told.Send(told{no: no, outs: outs})
}

// items: of a source's task its partition.
func (c *Cluster) items(at api.Task) []api.Item {
	if c.kind(at.Node) != api.NodeSource {
		return nil
	}
	return c.logs[at.Node][at.Part]
}

// reply: a message to the coordinator.
func (c *Cluster) reply(kind int, n uint64, no int) {
	c.control.Send(toCoord, api.Control{Kind: kind, Epoch: c.epoch, N: n, Task: no})
}

// crashTask: with a task all channels break that end at it, on both sides: it never comes back in this epoch.
func (c *Cluster) crashTask(no int) {
	if no < 0 || no >= len(c.posts) {
		return
	}
	p := &c.posts[no]
	p.work, p.down = nil, true
	for _, l := range [][]int{p.from, p.to} {
		for _, ch := range l {
			c.channels[ch].Kill(c.epoch)
		}
	}
}
