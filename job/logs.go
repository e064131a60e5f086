package job

import (
	"slices"

	"leat/api"
)

// Logs: see the chapter.
func Logs(j api.Job, l api.Logs) api.Errno {
	if len(l) != len(j.Nodes) {
		return api.ErrJobLogs
	}
	for i, n := range j.Nodes {
		if !partitionsFit(n, l[i]) {
			return api.ErrJobLogs
		}
	}
	return api.OK
}

// Whole: see the chapter.
func Whole(l api.Logs) bool {
	for _, partitions := range l {
		for _, items := range partitions {
			if !slices.ContainsFunc(items, isEnd) {
				return false
			}
		}
	}
	return true
}

// Items: see the chapter.
func Items(l api.Logs) int {
	n := 0
	for _, partitions := range l {
		for _, items := range partitions {
			n += len(items)
		}
	}
	return n
}

func partitionsFit(n api.Node, partitions [][]api.Item) bool {
	if n.Kind != api.NodeSource {
		return len(partitions) == 0
	}
	if len(partitions) != n.Par {
		return false
	}
	for _, items := range partitions {
		if len(items) > api.MaxItems || slices.ContainsFunc(items, isNone) {
			return false
		}
	}
	return true
}

// isNone: whether it is no item that a log may have.
func isNone(it api.Item) bool {
	switch it.Kind {
	case api.ItemRecord:
		return it.Mark != 0 || !isTime(it.Rec.Time)
	case api.ItemMark:
		return it.Rec != api.Record{} || !isTime(it.Mark) && it.Mark != api.MaxMark
	}
	return true
}

func isTime(t int64) bool { return t >= -api.MaxTime && t <= api.MaxTime }

// isEnd: whether it is the watermark behind which nothing counts any more.
func isEnd(it api.Item) bool { return it.Kind == api.ItemMark && it.Mark == api.MaxMark }
