package mean

import (
	"slices"

	"leat/api"
	"leat/job"
	"leat/plan"
)

// read: of each partition the items up to its offset.
func read(l api.Logs, offsets [][]int) api.Logs {
	upTo := make(api.Logs, len(l))
	for i, partitions := range l {
		upTo[i] = make([][]api.Item, len(partitions))
		for k, items := range partitions {
			upTo[i][k] = items[:offset(offsets, i, k, len(items))]
		}
	}
	return upTo
}

// offset: how many of a partition's items were read; all of them, where nothing is told of it.
func offset(offsets [][]int, node, partition, items int) int {
	if node >= len(offsets) || partition >= len(offsets[node]) {
		return items
	}
	return min(max(offsets[node][partition], 0), items)
}

// marksOf: of each node each part's watermark, when all items of the logs were read. Of a part that is no source's MaxMark stands till a channel to it tells less.
func marksOf(j api.Job, l api.Logs) [][]int64 {
	marks := make([][]int64, len(j.Nodes))
	p := plan.Make(j)
	for _, i := range job.Order(j) {
		marks[i] = ends(j.Nodes[i].Par)
		for part, items := range l[i] {
			marks[i][part] = greatest(items)
		}
		for _, c := range p.Channels {
			if from, to := p.Tasks[c.From], p.Tasks[c.To]; to.Node == i {
				marks[i][to.Part] = min(marks[i][to.Part], marks[from.Node][from.Part])
			}
		}
	}
	return marks
}

// greatest: of the items' watermarks; MinMark, if there is none.
func greatest(items []api.Item) int64 {
	mark := int64(api.MinMark)
	for _, it := range items {
		if it.Kind == api.ItemMark {
			mark = max(mark, it.Mark)
		}
	}
	return mark
}

// leasts: of each node the least watermark of its parts.
func leasts(marks [][]int64) []int64 {
	least := make([]int64, len(marks))
	for i, parts := range marks {
		least[i] = slices.Min(parts)
	}
	return least
}

// ends: so many times the maximal watermark.
func ends(n int) []int64 { return slices.Repeat([]int64{api.MaxMark}, n) }
