package task

import (
	"leat/api"
	"leat/plan"
)

// someKeys: the keys below it are of all groups.
const someKeys = 64

// lines: where what a task tells goes.
type lines struct {
	from    []int             // all channels
	byGroup [api.Groups][]int // a record's, by its key's group
}

// linesOf: a task's. Which channels a record goes along hangs on its key's group alone: so a few keys tell it of all, and neither job nor plan need be kept.
func linesOf(j api.Job, p api.Plan, no int) lines {
	l := lines{from: plan.From(p, no)}
	for key := range int64(someKeys) {
		l.byGroup[plan.Group(key)] = plan.Outs(j, p, no, key)
	}
	return l
}

// records: each along its own channels.
func (l *lines) records(recs []api.Record) []api.Out {
	var out []api.Out
	for _, r := range recs {
		out = sent(out, l.byGroup[plan.Group(r.Key)], api.Frame{Kind: api.FrameRecord, Rec: r})
	}
	return out
}

// all: a frame along each channel.
func (l *lines) all(f api.Frame) []api.Out { return sent(nil, l.from, f) }

// sent: out, and the frame along each of the channels.
func sent(out []api.Out, channels []int, f api.Frame) []api.Out {
	for _, ch := range channels {
		out = append(out, api.Out{Channel: ch, F: f})
	}
	return out
}
