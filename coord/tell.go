package coord

import "leat/api"

// tell: a message of this epoch to each of a list, in order.
func (c *Coord) tell(kind int, n uint64, to []int) []api.Control {
	var l []api.Control
	for _, task := range to {
		l = append(l, api.Control{Kind: kind, Epoch: c.epoch, N: n, Task: task})
	}
	return l
}

// restores: to the tasks that aren't ready.
func (c *Coord) restores() []api.Control {
	return c.tell(api.CtlRestore, c.durable, c.ready.missing())
}

// commits: of what is durable, to the sinks that haven't told that they committed it.
func (c *Coord) commits() []api.Control {
	if c.durable == 0 {
		return nil
	}
	return c.tell(api.CtlCommit, c.durable, c.done.missing())
}

// triggers: of the one under way, to the tasks that haven't acked it: none, when it is at the store.
func (c *Coord) triggers() []api.Control {
	if c.under == 0 {
		return nil
	}
	return c.tell(api.CtlTrigger, c.under, c.acked.missing())
}
