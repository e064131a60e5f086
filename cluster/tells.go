package cluster

import (
	"leat/api"
	"leat/window"
)

// Sink: see the chapter.
func (c *Cluster) Sink(node int) []api.Record {
	if c.kind(node) != api.NodeSink {
		return nil
	}
	return c.sinks[node].All()
}

// Durable: see the chapter.
func (c *Cluster) Durable() []uint64 { return c.vault.List() }

// Offsets: see the chapter.
func (c *Cluster) Offsets(n uint64) [][]int {
	if !c.vault.Has(n) {
		return nil
	}
	l := make([][]int, len(c.job.Nodes))
	for _, s := range c.parts(n) {
		if node := c.plan.Tasks[s.Task].Node; c.kind(node) == api.NodeSource {
			l[node] = append(l[node], s.Offset)
		}
	}
	return l
}

// Over: see the chapter.
func (c *Cluster) Over(n uint64) bool { return c.vault.Has(n) && c.isOver(n) }

// Upto: see the chapter.
func (c *Cluster) Upto(node int, n uint64) []api.Record {
	if c.kind(node) != api.NodeSink || !c.vault.Has(n) {
		return nil
	}
	var l []api.Record
	for part := range c.job.Nodes[node].Par {
		l = append(l, c.sinks[node].Upto(part, n)...)
	}
	return l
}

// Panes: see the chapter.
func (c *Cluster) Panes(node int, n uint64) []api.Pane {
	var l []api.Pane
	for _, s := range c.parts(n) {
		if c.plan.Tasks[s.Task].Node == node {
			l = append(l, s.Panes...)
		}
	}
	return window.Sort(l)
}

// parts: of a durable checkpoint, in the order of the tasks.
func (c *Cluster) parts(n uint64) []api.Snap {
	snaps, _, _ := c.vault.Get(n)
	return snaps
}

// Epoch: see the chapter.
func (c *Cluster) Epoch() uint64 { return c.epoch }

// Tasks: see the chapter.
func (c *Cluster) Tasks() int { return len(c.posts) }

// Channels: see the chapter.
func (c *Cluster) Channels() int { return len(c.channels) }

// Controls: see the chapter.
func (c *Cluster) Controls() int { return c.control.Len() }

// Most: see the chapter.
func (c *Cluster) Most() int { return c.most }
