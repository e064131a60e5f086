package coord

const mostPatience = 1 << 20 // ticks, however many were given up

// moveOn: what is under way for too long is given up, and the next number begins when it is due. What is at the store is beyond that: whether it becomes durable is for Stored alone to tell.
func (c *Coord) moveOn() {
	since := c.ticks - c.began
	if c.under > 0 && !c.atStore && since >= c.patience {
		c.under = 0
		c.patience = min(2*c.patience, mostPatience)
	}
	if c.under == 0 && since >= c.interval {
		c.beginNext()
	}
}

// beginNext: whatever became of the numbers ahead of it. As none comes again, no old message can be taken for one of it.
func (c *Coord) beginNext() {
	c.greatest++
	c.under, c.began = c.greatest, c.ticks
	c.acked.askAgain()
}
