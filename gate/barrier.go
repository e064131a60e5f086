package gate

import (
	"leat/api"
)

// capture: a frame that comes ahead of its channel's barrier belongs to an unaligned checkpoint, whose state was kept without it.
func (g *Gate) capture(ch int, f api.Frame) {
	if g.under != 0 && g.over && !g.come[ch] {
		g.captured = append(g.captured, api.Out{Channel: ch, F: f})
	}
}

// barrier: a channel's barrier of checkpoint n has come.
func (g *Gate) barrier(ch int, n uint64, over bool) api.Step {
	if n > g.last {
		g.begin(n, over)
	}
	if n == 0 || n != g.under || g.come[ch] {
		return api.Step{}
	}
	g.come[ch] = true
	g.missing--
	return g.arrived()
}

func (g *Gate) begin(n uint64, over bool) {
	g.giveUp()
	g.last, g.under, g.over = n, n, over
	clear(g.come)
	g.missing = len(g.come)
}

// giveUp: nothing is under way any more, and nothing of what was is kept.
func (g *Gate) giveUp() {
	g.under = 0
	g.captured = nil
}

// arrived: what one more barrier of the checkpoint under way tells. The state is kept with an aligned one's last barrier, with an unaligned one's first, which may be its last one as well: so from keeping it the switch falls on to where the barriers end.
func (g *Gate) arrived() api.Step {
	var s api.Step
	first := g.missing == len(g.come)-1
	switch {
	case !g.over && g.missing > 0: // the channel is blocked
	case !g.over, first:
		s.Kind, s.N = api.StepBarrier, g.under
		fallthrough
	default:
		if g.missing == 0 {
			s.Full = g.under
			g.under = 0
		}
	}
	return s
}
