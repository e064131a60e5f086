package cluster

import (
	"leat/api"
	"leat/job"
	"leat/plan"
)

// Bound: see the chapter.
func Bound(j api.Job, l api.Logs, s api.Settings) int {
	if refusal(j, l) != api.OK {
		return 0
	}
	p := plan.Make(j)
	weights := 0
	for _, w := range job.Weights(j) {
		weights += w
	}
	return 64*(1+ticksOf(s.Interval)+ticksOf(s.Timeout)+len(p.Tasks)+len(p.Channels)) + 16*job.Items(l)*(weights+len(p.Channels))
}

// ticksOf: an interval or a time out as the coordinator counts it.
func ticksOf(n int) int { return min(max(n, 1), 1000) }

const eventBytes = 3

// Run: see the chapter.
func Run(j api.Job, l api.Logs, s api.Settings, script []byte) (int, [][]api.Record) {
	c := New(j, l, s)
	for ; len(script) >= eventBytes; script = script[eventBytes:] {
		c.Do(eventOf(script))
	}
	var recs [][]api.Record
	for node := range c.job.Nodes {
		recs = append(recs, c.Sink(node))
	}
	return c.status, recs
}

// eventOf: what the first bytes tell.
func eventOf(b []byte) api.Event {
	return api.Event{Kind: int(b[0]) % (api.EvCut + 1), A: int(b[1]), B: int(b[2])}
}
