package script

import (
	"slices"
	"strconv"
	"strings"

	"leat/api"
	"leat/cluster"
	"leat/job"
	"leat/mean"
)

// Play: see the chapter.
func Play(j api.Job, l api.Logs, s api.Settings, script []byte) string {
	c := cluster.New(j, l, s)
	for _, e := range Events(script) {
		c.Do(e)
	}
	bringToEnd(c, j, l, s)
	var b strings.Builder
	writeStatus(&b, c)
	for number, n := range j.Nodes {
		if n.Kind == api.NodeSink {
			writeSink(&b, c, number)
		}
	}
	return b.String()
}

// bringToEnd: Rounds till it is Finished. What isn't Whole never is, so that all Rounds behind the last record that can be committed would tell the same: those are spared.
func bringToEnd(c *cluster.Cluster, j api.Job, l api.Logs, s api.Settings) {
	left := cluster.Bound(j, l, s)
	if job.Whole(l) {
		rounds(c, left)
		return
	}
	most := mean.Cut(j, l, nil)
	for n := 1; left > 0 && !holds(c, j, most); n *= 2 { // ever longer stretches: to look costs more than a Round
		rounds(c, min(n, left))
		left -= n
	}
}

func rounds(c *cluster.Cluster, n int) {
	for ; n > 0 && c.Status() == api.Running; n-- {
		c.Round()
	}
}

// holds: whether the sinks have committed all of it.
func holds(c *cluster.Cluster, j api.Job, all [][]api.Record) bool {
	for number, n := range j.Nodes {
		if n.Kind == api.NodeSink && !slices.Equal(mean.Sort(c.Sink(number)), all[number]) {
			return false
		}
	}
	return true
}

func writeStatus(b *strings.Builder, c *cluster.Cluster) {
	b.WriteString(wordOf(statuses(), c.Status()))
	if c.Status() == api.Rejected {
		b.WriteString(" " + strconv.Itoa(int(c.Why())))
	}
	b.WriteByte('\n')
}

func writeSink(b *strings.Builder, c *cluster.Cluster, number int) {
	b.WriteString("sink " + strconv.Itoa(number))
	for _, r := range mean.Sort(c.Sink(number)) {
		b.WriteString(" (" + decimal(r.Key) + " " + decimal(r.Time) + " " + decimal(r.Val) + ")")
	}
	b.WriteByte('\n')
}

func decimal(n int64) string { return strconv.FormatInt(n, 10) }
